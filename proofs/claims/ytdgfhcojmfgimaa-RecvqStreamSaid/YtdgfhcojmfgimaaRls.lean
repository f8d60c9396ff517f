/-
  The law RecvqStream: every number, every row of bytes, every slice of pieces of it.
-/
import Derived.Test.YtdgfhcojmfgimaaRlv
import Derived.Test.YtdgfhcojmfgimaaRqz
import Derived.Test.YtdgfhcojmfgimaaTwe
namespace Go.Proofs.Ytdgfhcojmfgimaa
open Go.RowKit

set_option maxRecDepth 100000 in
set_option maxHeartbeats 40000000 in
theorem stream_any (n : Int) (A : Option Addr) (sl c : Nat) (s : List UInt8) (v : Value) (l : List Cu) (w : World) (hn : U32 n) (hs : Rv w (Lt w.heap.size) (.slice A sl c) (bytesD s)) (hsl : s.length = sl) (hv : SlT cuA w v l) (hO : ∀ o ∈ l, I64 o.a ∧ I64 o.b ∧ I64 o.r) (hl : l.length ≤ 140737488351232) (hL : sl ≤ 140737488351232) :
    Calls Try.prog 4 #[.int .u32 n, .slice A sl c, v] w fun e w' => e = .returned (.bool true) ∧ Below w.heap.size w w' := by
  obtain ⟨-, -, hLc, hcm⟩ := rd_bytes hs hsl
  have hcm2 : c ≤ 9223372036854775807 := by unfold maxLen at hcm; omega
  have HRS := Lib.hid hs
  have HSL := Lib.hid hsl
  have HNN := Lib.hid hn
  have HO := Lib.hid hO
  obtain ⟨Av, cv, rfl, htr, -, hnv, hmv⟩ := hv
  have hmv2 : cv ≤ 9223372036854775807 := by unfold maxLen at hmv; omega
  have HTR := Lib.hid htr
  obtain ⟨m, hm⟩ : ∃ m, l.length = m := ⟨_, rfl⟩
  rw [hm] at hnv hl ⊢
  have HM := Lib.hid hm
  clear hs hsl hn hO htr hm hmv hcm
  go_enter Try.func4, Try.ntmps4
  go_wp2_with fail
  refine (lives_any _).mono ?_
  rintro e w1 ⟨rfl, hb1⟩
  have HB1 := Lib.hid hb1
  clear hb1
  by_cases h600 : 600 < sl
  · have h600b : (600 : Int) < (sl : Int) := by omega
    go_wp2_with fail
    refine (lives_any _).mono ?_
    rintro e w3 ⟨rfl, hb3⟩
    have HB3 := Lib.hid (HB1.out.trans (hb3.mono HB1.out.size))
    clear hb3
    go_wp2
    go_ret
    exact ⟨rfl, HB3.out⟩
  have h600b : ¬ (600 : Int) < (sl : Int) := by omega
  by_cases h80 : 80 < m
  · have h80b : (80 : Int) < (m : Int) := by omega
    go_wp2_with fail
    refine (lives_any _).mono ?_
    rintro e w3 ⟨rfl, hb3⟩
    have HB3 := Lib.hid (HB1.out.trans (hb3.mono HB1.out.size))
    clear hb3
    go_wp2
    go_ret
    exact ⟨rfl, HB3.out⟩
  have h80b : ¬ (80 : Int) < (m : Int) := by omega
  have HST0 := Lib.hid (str_new s HNN.out)
  obtain ⟨X0, hX0⟩ : ∃ X0, newX n = X0 := ⟨_, rfl⟩
  have HX0 := Lib.hid hX0
  rw [hX0] at HST0
  clear hX0
  go_wp2_with fail
  refine (new_any n _ HNN.out).mono ?_
  rintro e w3 ⟨cs1, rfl, hr, hb⟩
  rw [HX0.out] at hr
  obtain ⟨vD, vA, rfl, h1⟩ := rq_of hr
  have HA1 := Lib.hid h1
  have F1 := Lib.hid ((Frm.start HB1.out).new hb hr)
  clear hr hb h1
  go_upto_region 4 with (first | (refine wpList_store_new rfl 29 _ _ rfl w3 #[.int .u32 0, .slice none 0 0, .slice none 0 0, .bool false, .int .u32 0, .bool false] (rqC (conc X0) vD vA) rfl rfl (by kernel_rfl) rfl HA1.out ?_) | go_in)
  have F2 := Lib.hid (F1.out.alloc (rqC (conc X0) vD vA) 29)
  generalize w3.alloc (.cells (rqC (conc X0) vD vA) 29) = w5 at F2 ⊢
  obtain ⟨g1, hg1⟩ : ∃ g1, w3.heap.size = g1 := ⟨_, rfl⟩
  rw [hg1] at F2 ⊢
  have F6 : Hid (Frm w w5 [(g1, (rqC (conc X0) vD vA), 29)] [((rqC (conc X0) vD vA).toList, rqD (conc X0))]) := F2
  clear F1 F2 hg1 HA1 HX0 HB1
  go_wp2
  go_loopw [8, 37] (fun t8 t37 wr => ∃ (i r p : Nat) (x : Rx) (a b : Value), i ≤ m ∧ t37 = .int .i64 (i : Int) ∧ t8 = (.string ⟨(s.take r).toArray⟩) ∧ Hid (Str s n r p x) ∧ Hid (Frm w wr [(g1, (rqC (conc x) a b), 29)] [((rqC (conc x) a b).toList, rqD (conc x))])) (fun _ t37 _ => m - (intOf t37).toNat)
  case atStart => exact ⟨0, 0, 0, X0, vD, vA, Nat.zero_le _, rfl, rfl, HST0, F6⟩
  case round =>
    clear F6 HST0
    obtain ⟨i, r, p, x, vD, vA, hi, rfl, rfl, HST, F1⟩ := hrel
    by_cases hlt : i < m
    · obtain ⟨o, ho⟩ : ∃ o, l[i]? = some o := ⟨_, List.getElem?_eq_getElem (by rw [HM.out]; exact hlt)⟩
      obtain ⟨ad, rfl, hKA⟩ := el_all cuE HTR.out (by omega) ho
      obtain ⟨ho1, ho2, ho3⟩ := HO.out o (List.mem_of_getElem? ho)
      obtain ⟨ca, cl, cr⟩ := o
      dsimp only at ho1 ho2 ho3
      have HKC : Hid (∀ (j : Nat) v, (#[.int .i64 ca, .int .i64 cl, .int .i64 cr] : Array Value)[j]? = some v → wr.cell? ((ad.add (i * 3)).add j) = some v) := hKA wr F1.out.below
      have HRD := Lib.hid ho3
      have F2 := Lib.hid (F1.out.add (F1.out.old (rvs_cons.2 ⟨HRS.out, rvs_nil⟩)))
      clear ho hKA ho1 ho2 ho3 F1
      go_upto_region 8 with (first | (refine wpList_load_atA rfl 51 _ rfl (ad.add (i * 3)) rfl #[.int .i64 ca, .int .i64 cl, .int .i64 cr] _ HKC.out Try.underlying51 rfl (by kernel_rfl) ?_) | (refine wpList_store_new rfl 51 _ _ rfl wr #[.int .i64 0, .int .i64 0, .int .i64 0] #[.int .i64 ca, .int .i64 cl, .int .i64 cr] rfl rfl (by kernel_rfl) rfl (by simp [Value.oneCell']) ?_) | go_in)
      have F3 := Lib.hid (F2.out.alloc #[.int .i64 ca, .int .i64 cl, .int .i64 cr] 51)
      obtain ⟨go, hgo⟩ : ∃ go, wr.heap.size = go := ⟨_, rfl⟩
      rw [hgo] at F3 ⊢
      generalize wr.alloc (.cells #[.int .i64 ca, .int .i64 cl, .int .i64 cr] 51) = w5 at F3 ⊢
      clear HKC F2 hgo
      have F4 : Hid (Frm w w5 [(go, #[.int .i64 ca, .int .i64 cl, .int .i64 cr], 51), (g1, (rqC (conc x) vD vA), 29)] [([.slice A sl c], [bytesD s]), ((rqC (conc x) vD vA).toList, rqD (conc x))]) := F3
      clear F3
      obtain ⟨o0, o1, o2⟩ := three_cells (F4.out.at (i := 0) rfl)
      obtain ⟨fr, hfr, hfr2⟩ := u64_rem ca (sl + 1) (by omega) (by omega)
      rw [show ((sl + 1 : Nat) : Int) = (sl : Int) + 1 from by omega] at hfr
      obtain ⟨ln, hln, hln2⟩ := u64_rem cl 200 (by omega) (by omega)
      change (IntKind.u64.wrap cl).tmod 200 = (ln : Int) at hln
      obtain ⟨T, hT⟩ : ∃ T, min sl (fr + ln) = T := ⟨_, rfl⟩
      have hfT : fr ≤ T := by omega
      have hTL : T ≤ sl := by omega
      have HTT := Lib.hid hT
      clear hT
      go_upto_region 9 with (fail)
      go_cut [12] (fun t12 wx => Hid (t12 = .int .i64 (T : Int)) ∧ Hid (w5 = wx))
      case first =>
        rcases Nat.lt_trichotomy sl (fr + ln) with h | h | h
        · have hTe : Hid (T = sl) := by have := HTT.out; show _ = _; omega
          have hb : (sl : Int) < (fr : Int) + (ln : Int) := by omega
          go_wp2
          go_meet
          case rel => exact ⟨Lib.hid (by rw [hTe.out]), Lib.hid rfl⟩
        · have hTe : Hid (T = sl) := by have := HTT.out; show _ = _; omega
          have hb : (sl : Int) = (fr : Int) + (ln : Int) := by omega
          have HB := Lib.hid hb
          go_wp2
          go_meet
          case rel => exact ⟨Lib.hid (by rw [hTe.out, HB.out]), Lib.hid rfl⟩
        · have hTe : Hid ((T : Int) = (fr : Int) + (ln : Int)) := by have := HTT.out; show _ = _; omega
          have hb : (fr : Int) + (ln : Int) < (sl : Int) := by omega
          go_wp2
          go_meet
          case rel => exact ⟨Lib.hid (by rw [hTe.out]), Lib.hid rfl⟩
      case rest =>
        obtain ⟨h12, hx⟩ := hcut
        obtain rfl := h12.out
        obtain rfl := hx.out
        clear h12 hx hfr hln hln2 HTT
        obtain ⟨AT, hAT⟩ : ∃ AT, addS n fr = AT := ⟨_, rfl⟩
        have HAU : Hid (U32 AT) := by rw [← hAT]; exact ⟨addS_ge _ _, addS_le _ _⟩
        have hwa : IntKind.u32.wrap (n + IntKind.u32.wrap (fr : Int)) = AT := by rw [IntKind.wrap_u32', IntKind.wrap_u32']; exact (wrap_add n fr).trans hAT
        obtain ⟨EB, hEB⟩ : ∃ EB, decide (T = s.length) = EB := ⟨_, rfl⟩
        have heb : decide ((T : Int) = (sl : Int)) = EB := by rw [← hEB, HSL.out]; exact decide_eq_decide.2 (by omega)
        have heb2 : ((T : Int) == (sl : Int)) = EB := by rw [← heb]; rfl
        obtain ⟨D, hD⟩ : ∃ D, pieceX s fr T = D := ⟨_, rfl⟩
        obtain ⟨y, hy⟩ : ∃ y, acceptX x AT D EB = y := ⟨_, rfl⟩
        have HOY : Hid (OkX y) := by rw [← hy]; exact accept_ok HST.out.ok AT D EB
        have hstr := str_piece (a := fr) (b := T) HST.out (by rw [HSL.out]; omega) hfT (by rw [HSL.out]; exact hTL)
        rw [hAT, hD, hEB, hy] at hstr
        have HD10 : Hid (D.length ≤ 1000) := by show _ ≤ _; rw [← hD, piece_len hfT (by rw [HSL.out]; exact hTL)]; omega
        obtain ⟨SV, hSV⟩ : ∃ SV, Value.slice (if c = fr then A else A.map (·.add (fr * 1))) (T - fr) (c - fr) = SV := ⟨_, rfl⟩
        have hrun := fun w => run_slice_lh (P := Try.prog) 26 5 1 Try.underlying26 (by kernel_rfl) A sl c fr T hfT (by omega) w
        rw [hSV] at hrun
        have HRUN := Lib.hid hrun
        have HPB := Lib.hid (part_bytes (rvs_cons.1 (F4.out.val (i := 0) rfl)).1 HSL.out hfT hTL)
        rw [hSV, hD] at HPB
        have HCA := Lib.hid (fun w' S S2 (hr : Rvs w' S (rqC (conc x) vD vA).toList (rqD (conc x))) (hv : Rv w' S2 SV (bytesD D)) => accept_any x (rqC (conc x) vD vA) S S2 AT SV D EB w' hr HST.out.ok HAU.out hv HD10.out)
        rw [hy] at HCA
        clear hAT hEB hD hy hSV hrun
        have HSTR := Lib.hid hstr
        clear hstr
        have HX1 := Lib.hid (F4.out.at (i := 1) rfl)
        have HR1 : Hid (Rvs w5 (Nv [go, g1]) (rqC (conc x) vD vA).toList (rqD (conc x))) := Lib.hid (F4.out.val (i := 1) rfl)
        have HR0 : Hid (Rvs w5 (Nv [go, g1]) [SV] [bytesD D]) := Lib.hid (rvs_cons.2 ⟨HPB.out, rvs_nil⟩)
        have HS1 : Hid (¬ (Nv [go, g1]) g1) := Lib.hid (fun h => h (by simp))
        have HBIG : Hid (∀ b, w5.heap.size ≤ b → (Nv [go, g1]) b) := Lib.hid (fun b hb hm => by
          have := F4.out.lt b hm
          omega)
        go_upto_region 10 with (fail)
        clear HPB
        apply wp_region_relyG [14] (OldD1 w5 (Nv [go, g1]) 14 g1 29 (rqC (conc x) vD vA) (rqD (conc y))) (RL [Is (.agg (rqC (conc x) vD vA)), Is _, Is _, Is _, Is (.int .u32 AT), Is _, Is _, Is _, Is SV, Is _, Is _, Is _, Is (.bool EB), Rd1 (Nv [go, g1]) (rqD (conc y)), Any]) [false, false, false, false, false, false, false, false, false, false, false, false, false, false, false, false, false, false, false, false, false, false, false, false, false, false, false, false, false, false, false, false, false, false, false, false, false, false, false, false, false, false, false, false, false, false, false, false, false, false, false, false, false, false, false, false, false, false, false, false, true, true, true, true, true, true, true, true, true, true, true, true, true, true, false, false, false, false, false, false, false, false, false, false, false, false, false, false, false, false, false, false, false, false, false, false, false, false, false, false, false, false, false, false, false, false, false, false, false, false, false, false, false, false, false, false, false, false, false, false, false, false, false, false, false, false, false, false, false, false, false, false, false, false, false, false, false, false, false, false, false, false, false, false, false, false, false, false, false, false, false, false, false, false, false, false, false, false, false, false, false, false, false, false, false, false, false, false, false, false, false, false, false, false, false, false]
        · kernel_rfl
        · kernel_rfl
        · kernel_rfl
        · refine ⟨?_, ?_, ?_, ?_, ?_, ?_, ?_, ?_, ?_, ?_, ?_, ?_, ?_, ?_, ?_, trivial⟩
          · intro L ev w' hC hL hx K hK
            have e7 : ev (.tmp 7) = _ := hx.base 7 (by kernel_rfl)
            have HK := Lib.hid hK
            have HC := Lib.hid hC
            have HL := Lib.hid hL
            have HX := Lib.hid hx
            have hc := hx.cst
            skip
            clear hx hK hC hL
            have nst : L 14 = false := Bool.eq_false_iff.2 fun h => by have h9 := (HX.out.closed 13 _ 0 rfl (HX.out.closed 14 _ 13 rfl h (by kernel_rfl)) (by kernel_rfl)); rw [HL.out] at h9; cases h9
            have q1 : ev (.tmp 7) = .pointer (some ⟨g1, 0, none⟩) := e7
            have hld := run_loadVar_row (P := Try.prog) w' g1 29 29 (rqC (conc x) vD vA) (0, 0) _ (HC.out.old nst) Try.underlying29 rfl (by kernel_rfl)
            unfold Run
            rw [rely_load 29 _ rfl q1 hld]
            exact HK.out _ _ (.inl ⟨Below.refl _ _, by decide⟩) rfl
          · intro L ev w' hC hL hx K hK
            have e0 : ev (.tmp 0) = _ := hx.base 0 (by kernel_rfl)
            have HK := Lib.hid hK
            have HC := Lib.hid hC
            have HL := Lib.hid hL
            have HX := Lib.hid hx
            have hc := hx.cst
            skip
            clear hx hK hC hL
            unfold Run
            simp [execOp, Upon, go_sem, *]
            exact HK.out _ _ (.inl ⟨Below.refl _ _, by decide⟩) rfl
          · intro L ev w' hC hL hx K hK
            have e11 : ev (.tmp 11) = _ := hx.base 11 (by kernel_rfl)
            have HK := Lib.hid hK
            have HC := Lib.hid hC
            have HL := Lib.hid hL
            have HX := Lib.hid hx
            have hc := hx.cst
            skip
            clear hx hK hC hL
            unfold Run
            simp [execOp, Upon, go_sem, *]
            exact HK.out _ _ (.inl ⟨Below.refl _ _, by decide⟩) rfl
          · intro L ev w' hC hL hx K hK
            have e62 := hx.held 2 _ rfl (by kernel_rfl)
            change ev (.tmp 62) = _ at e62
            have HK := Lib.hid hK
            have HC := Lib.hid hC
            have HL := Lib.hid hL
            have HX := Lib.hid hx
            have hc := hx.cst
            skip
            clear hx hK hC hL
            unfold Run
            simp [execOp, Upon, go_sem, *]
            exact HK.out _ _ (.inl ⟨Below.refl _ _, by decide⟩) rfl
          · intro L ev w' hC hL hx K hK
            have e61 := hx.held 1 _ rfl (by kernel_rfl)
            have e63 := hx.held 3 _ rfl (by kernel_rfl)
            change ev (.tmp 61) = _ at e61
            change ev (.tmp 63) = _ at e63
            have HK := Lib.hid hK
            have HC := Lib.hid hC
            have HL := Lib.hid hL
            have HX := Lib.hid hx
            have hc := hx.cst
            skip
            clear hx hK hC hL
            unfold Run
            simp [execOp, Upon, go_sem, *]
            exact HK.out _ _ (.inl ⟨Below.refl _ _, by decide⟩) rfl
          · intro L ev w' hC hL hx K hK
            have e1 : ev (.tmp 1) = _ := hx.base 1 (by kernel_rfl)
            have HK := Lib.hid hK
            have HC := Lib.hid hC
            have HL := Lib.hid hL
            have HX := Lib.hid hx
            have hc := hx.cst
            skip
            clear hx hK hC hL
            unfold Run
            simp [execOp, Upon, go_sem, *]
            exact HK.out _ _ (.inl ⟨Below.refl _ _, by decide⟩) rfl
          · intro L ev w' hC hL hx K hK
            have e11 : ev (.tmp 11) = _ := hx.base 11 (by kernel_rfl)
            have HK := Lib.hid hK
            have HC := Lib.hid hC
            have HL := Lib.hid hL
            have HX := Lib.hid hx
            have hc := hx.cst
            skip
            clear hx hK hC hL
            unfold Run
            simp [execOp, Upon, go_sem, *]
            exact HK.out _ _ (.inl ⟨Below.refl _ _, by decide⟩) rfl
          · intro L ev w' hC hL hx K hK
            have e12 : ev (.tmp 12) = _ := hx.base 12 (by kernel_rfl)
            have HK := Lib.hid hK
            have HC := Lib.hid hC
            have HL := Lib.hid hL
            have HX := Lib.hid hx
            have hc := hx.cst
            skip
            clear hx hK hC hL
            unfold Run
            simp [execOp, Upon, go_sem, *]
            exact HK.out _ _ (.inl ⟨Below.refl _ _, by decide⟩) rfl
          · intro L ev w' hC hL hx K hK
            have e65 := hx.held 5 _ rfl (by kernel_rfl)
            have e66 := hx.held 6 _ rfl (by kernel_rfl)
            have e67 := hx.held 7 _ rfl (by kernel_rfl)
            change ev (.tmp 65) = _ at e65
            change ev (.tmp 66) = _ at e66
            change ev (.tmp 67) = _ at e67
            have HK := Lib.hid hK
            have HC := Lib.hid hC
            have HL := Lib.hid hL
            have HX := Lib.hid hx
            have hc := hx.cst
            skip
            clear hx hK hC hL
            have hx2 : ev (.tmp 65) = .slice A sl c := e65
            have ha2 : ev (.tmp 66) = .int .i64 (fr : Int) := e66
            have hb2 : ev (.tmp 67) = .int .i64 (T : Int) := e67
            unfold Run
            rw [run_sliceE 26 _ (some _) (some _) rfl Try.underlying26 hx2 (by simp only [Option.map_some, ha2, hb2]; exact HRUN.out _)]
            exact HK.out _ _ (.inl ⟨Below.refl _ _, by decide⟩) rfl
          · intro L ev w' hC hL hx K hK
            have e12 : ev (.tmp 12) = _ := hx.base 12 (by kernel_rfl)
            have HK := Lib.hid hK
            have HC := Lib.hid hC
            have HL := Lib.hid hL
            have HX := Lib.hid hx
            have hc := hx.cst
            skip
            clear hx hK hC hL
            unfold Run
            simp [execOp, Upon, go_sem, *]
            exact HK.out _ _ (.inl ⟨Below.refl _ _, by decide⟩) rfl
          · intro L ev w' hC hL hx K hK
            have e1 : ev (.tmp 1) = _ := hx.base 1 (by kernel_rfl)
            have HK := Lib.hid hK
            have HC := Lib.hid hC
            have HL := Lib.hid hL
            have HX := Lib.hid hx
            have hc := hx.cst
            skip
            clear hx hK hC hL
            unfold Run
            simp [execOp, Upon, go_sem, *]
            exact HK.out _ _ (.inl ⟨Below.refl _ _, by decide⟩) rfl
          · intro L ev w' hC hL hx K hK
            have e70 := hx.held 10 _ rfl (by kernel_rfl)
            change ev (.tmp 70) = _ at e70
            have HK := Lib.hid hK
            have HC := Lib.hid hC
            have HL := Lib.hid hL
            have HX := Lib.hid hx
            have hc := hx.cst
            skip
            clear hx hK hC hL
            unfold Run
            rw [run_lenE _ 26 5 Try.underlying26 rfl e70]
            exact HK.out _ _ (.inl ⟨Below.refl _ _, by decide⟩) rfl
          · intro L ev w' hC hL hx K hK
            have e69 := hx.held 9 _ rfl (by kernel_rfl)
            have e71 := hx.held 11 _ rfl (by kernel_rfl)
            change ev (.tmp 69) = _ at e69
            change ev (.tmp 71) = _ at e71
            have HK := Lib.hid hK
            have HC := Lib.hid hC
            have HL := Lib.hid hL
            have HX := Lib.hid hx
            have hc := hx.cst
            skip
            clear hx hK hC hL
            unfold Run
            simp [execOp, Upon, go_sem, *]
            exact HK.out _ _ (.inl ⟨Below.refl _ _, by decide⟩) rfl
          · intro L ev w' hC hL hx K hK
            have e60 := hx.held 0 _ rfl (by kernel_rfl)
            have e64 := hx.held 4 _ rfl (by kernel_rfl)
            have e68 := hx.held 8 _ rfl (by kernel_rfl)
            have e72 := hx.held 12 _ rfl (by kernel_rfl)
            change ev (.tmp 60) = _ at e60
            change ev (.tmp 64) = _ at e64
            change ev (.tmp 68) = _ at e68
            change ev (.tmp 72) = _ at e72
            have HK := Lib.hid hK
            have HC := Lib.hid hC
            have HL := Lib.hid hL
            have HX := Lib.hid hx
            have hc := hx.cst
            have hf := hx.fn
            clear hx hK hC hL
            unfold Run
            simp [execOp, Upon, go_sem, *]
            refine (HCA.out w' _ _ (HC.out.val HR1.out HS1.out) (rvs_cons.1 (HC.out.val HR0.out HS1.out)).1).mono ?_
            rintro e w2 ⟨cs', rfl, hr, hb⟩
            refine ⟨_, rfl, HK.out _ _ (.inl ⟨hb, by decide⟩) ⟨cs', rfl, hr.wide fun b hb2 => ?_⟩⟩
            rcases hb2 with hb2 | hb2
            · exact hb2
            · exact HBIG.out b (Nat.le_trans HC.out.1.size hb2)
          · intro L ev w' hC hL hx K hK
            have e7 : ev (.tmp 7) = _ := hx.base 7 (by kernel_rfl)
            have e73 := hx.held 13 _ rfl (by kernel_rfl)
            change (Rd1 (Nv [go, g1]) (rqD (conc y)) : Pred) (ev (.tmp 73)) w' at e73
            have HK := Lib.hid hK
            have HC := Lib.hid hC
            have HL := Lib.hid hL
            have HX := Lib.hid hx
            have hc := hx.cst
            skip
            clear hx hK hC hL
            obtain ⟨C, hC, hr⟩ := e73
            have qp : ev (.tmp 7) = .pointer (some ⟨g1, 0, none⟩) := e7
            have nst : L 14 = false := HL.out
            have hgh := HC.out.old nst
            have hsz : C.size = 6 := hr.1
            have hst := run_storeVar_row (P := Try.prog) w' g1 29 29 (rqC (conc x) vD vA) C hgh (by rw [hsz]; kernel_rfl) (by rw [hsz]; rfl) (Array.all_eq_true_iff_forall_mem.2 fun u hu => hr.ones u (by simpa using hu))
            unfold Run
            rw [rely_store 29 _ _ rfl qp hC hst]
            refine HK.out _ _ (.inr ⟨HC.out.store nst (by rw [hsz]; rfl) hr HS1.out, fun j hj hlj u hr => ?_⟩) trivial
            rcases j with _ | _ | _ | _ | _ | _ | _ | _ | _ | _ | _ | _ | _ | _ | _ | j
            · exact hr
            · exact hr
            · exact hr
            · exact hr
            · exact hr
            · exact hr
            · exact hr
            · exact hr
            · exact hr
            · exact hr
            · exact hr
            · exact hr
            · exact hr
            · exact rd1_set hr HS1.out _
            · exact absurd rfl hj
            · exact trivial
        · exact rl_mono ⟨is_mono _, is_mono _, is_mono _, is_mono _, is_mono _, is_mono _, is_mono _, is_mono _, is_mono _, is_mono _, is_mono _, is_mono _, is_mono _, rd1_mono _ _, any_mono, trivial⟩
        · exact fun L L' w' h1 hg => hg.agree (h1 14 (by simp))
        · exact fun L w' w'' hb hg => hg.below hb
        · exact OldD1.start HX1.out
        · simp
        intro us wr hG hH
        obtain ⟨-, -, -, -, -, -, -, -, -, -, -, -, -, -, -, -⟩ := hH
        simp only [fillM]
        obtain ⟨hG9, C1, hvn1, hrn1⟩ := OldD1.done hG
        have HVN1 := Lib.hid hvn1
        have HRN1 := Lib.hid hrn1
        have HG9 := Lib.hid hG9
        clear hG hG9 hvn1 hrn1
        generalize us 60 = v60
        generalize us 61 = v61
        generalize us 62 = v62
        generalize us 63 = v63
        generalize us 64 = v64
        generalize us 65 = v65
        generalize us 66 = v66
        generalize us 67 = v67
        generalize us 68 = v68
        generalize us 69 = v69
        generalize us 70 = v70
        generalize us 71 = v71
        generalize us 72 = v72
        generalize us 73 = v73
        obtain ⟨a, b, rfl, -⟩ := rq_of HRN1.out
        have F5 := Lib.hid (F4.out.put1 (i := 1) rfl HG9.out HVN1.out)
        have F6 : Hid (Frm w wr [(go, #[.int .i64 ca, .int .i64 cl, .int .i64 cr], 51), (g1, (rqC (conc y) a b), 29)] [((rqC (conc y) a b).toList, rqD (conc y)), ([.slice A sl c], [bytesD s])]) := Lib.hid ((F5.out.drop (qs := [([.slice A sl c], [bytesD s])]) 0 rfl (fun p hp => by simp only [List.mem_cons, List.not_mem_nil, or_false] at hp ⊢; rcases hp with rfl; simp)).add HRN1.out)
        clear F4 F5 HG9 HVN1 HRN1 HX1 HR0 HR1 HS1 HBIG HCA HRUN HAU HD10 o0 o1 o2 hwa heb heb2
        rename World => wq
        obtain ⟨p', -, HSTY, -⟩ := HSTR.out
        obtain ⟨hz1, hz2⟩ := str_read HSTY cr
        obtain ⟨z, hz⟩ : ∃ z, readX y cr = z := ⟨_, rfl⟩
        obtain ⟨k, hk⟩ : ∃ k, cutX y cr = k := ⟨_, rfl⟩
        obtain ⟨LB, hLB⟩ : ∃ LB, y.data.take k = LB := ⟨_, rfl⟩
        have HLB : Hid (LB.length ≤ 256) := by show _ ≤ _; rw [← hLB, List.length_take]; have := HOY.out.data; omega
        rw [hz, hk] at hz1
        rw [hk, hLB] at hz2
        obtain ⟨q, hq⟩ : ∃ q, r + k = q := ⟨_, rfl⟩
        rw [hq] at hz1 hz2
        have HSZ := Lib.hid hz1
        have HCT := Lib.hid hz2
        have HRE := Lib.hid (read_any y (rqC (conc y) a b) _ cr wq (F6.out.val (i := 0) rfl) HOY.out HRD.out)
        rw [hz, hk, hLB] at HRE
        clear hz1 hz2 hz hk hLB hq HSTY HSTR
        obtain ⟨o0, o1, o2⟩ := three_cells (F6.out.at (i := 0) rfl)
        go_wp2_with (refine wpList_load_row rfl 29 _ rfl g1 rfl 29 (rqC (conc y) a b) (0, 0) _ (F6.out.at (i := 1) rfl) Try.underlying29 rfl (by kernel_rfl) ?_)
        refine HRE.out.mono ?_
        rintro e w8 ⟨cs', vb, rfl, hr, hrb, hb⟩
        obtain ⟨a', b', rfl, h1⟩ := rq_of hr
        have H1 := Lib.hid h1
        have F7 := Lib.hid ((F6.out.res hb hr).more F6.out (us := [vb]) (ds := [bytesD LB]) (rvs_cons.2 ⟨hrb, rvs_nil⟩))
        clear h1 hr hrb hb F6 o0 o1 o2 HRE
        go_upto_region 12 with (first | (refine wpList_store_new rfl 29 _ _ rfl w8 #[.int .u32 0, .slice none 0 0, .slice none 0 0, .bool false, .int .u32 0, .bool false] (rqC (conc z) a' b') rfl rfl (by kernel_rfl) rfl H1.out ?_) | go_in)
        have F8 := Lib.hid (F7.out.alloc (rqC (conc z) a' b') 29)
        obtain ⟨gn, hgn⟩ : ∃ gn, w8.heap.size = gn := ⟨_, rfl⟩
        rw [hgn] at F8 ⊢
        generalize w8.alloc (.cells (rqC (conc z) a' b') 29) = w9 at F8 ⊢
        clear F7 hgn
        go_upto_region 13 with (first | (refine wpList_load_row rfl 29 _ rfl gn rfl 29 (rqC (conc z) a' b') (0, 0) _ (F8.out.at (i := 0) rfl) Try.underlying29 rfl (by kernel_rfl) ?_) | (refine wpList_store_row rfl 29 _ _ rfl g1 (rqC (conc z) a' b') rfl rfl 29 (rqC (conc y) a b) (F8.out.at (i := 2) rfl) (by kernel_rfl) rfl H1.out ?_) | go_in)
        have F9 := Lib.hid (F8.out.put (i := 2) rfl (rqC (conc z) a' b'))
        have F10 : Hid (Frm w (w9.setRow g1 (rqC (conc z) a' b')) [(g1, (rqC (conc z) a' b'), 29)] [([vb], [bytesD LB]), ((rqC (conc z) a' b').toList, rqD (conc z)), ([.slice A sl c], [bytesD s])]) := Lib.hid (F9.out.drop 2 rfl (fun p hp => by simp only [List.mem_cons, List.not_mem_nil, or_false] at hp ⊢; rcases hp with rfl | rfl | rfl <;> simp))
        generalize w9.setRow g1 (rqC (conc z) a' b') = w10 at F10 ⊢
        clear F8 F9 H1
        have hcv := conv_bytes (rvs_cons.1 (F10.out.val (i := 0) rfl)).1 w10 (Below.refl _ _)
        have hrl : (⟨(s.take r).toArray⟩ : ByteArray).size = r := (txt_size _).trans (by rw [List.length_take, HSL.out]; have h1 := HST.out.rp; have h2 := HST.out.le; rw [HSL.out] at h2; omega)
        have hr6 : r ≤ 600 := by have h1 := HST.out.rp; have h2 := HST.out.le; rw [HSL.out] at h2; omega
        obtain ⟨lb, hlb⟩ : ∃ lb, LB.length = lb := ⟨_, rfl⟩
        have hlb2 : lb ≤ 256 := by rw [← hlb]; exact HLB.out
        have hls : (⟨LB.toArray⟩ : ByteArray).size = lb := (txt_size _).trans hlb
        have hta := txt_add (s.take r) LB
        rw [HCT.out] at hta
        have hqL : q ≤ sl := by have h1 := HSZ.out.rp; have h2 := HSZ.out.le; rw [HSL.out] at h2; omega
        have hql : (s.take q).length = q := by rw [List.length_take, HSL.out]; omega
        have hqs : (⟨(s.take q).toArray⟩ : ByteArray).size = q := (txt_size _).trans hql
        have HDT : Hid ((conc z).data.length ≤ 256) := HSZ.out.ok.data
        obtain ⟨dz, hdz⟩ : ∃ dz, (conc z).data.length = dz := ⟨_, rfl⟩
        rw [hdz] at HDT
        have hdz2 : dz ≤ 256 := HDT.out
        obtain ⟨Az, cz, e1, -⟩ := rv_bytes.1 (rq_data (F10.out.val (i := 1) rfl))
        rw [hdz] at e1
        subst e1
        have HEN := Lib.hid (ended_any z _ _ w10 (F10.out.val (i := 1) rfl) HSZ.out.ok)
        have HEE := Lib.hid (fun he => str_ended HSZ.out he)
        obtain ⟨eb2, heb2⟩ : ∃ eb2, (z.done && z.data.isEmpty) = eb2 := ⟨_, rfl⟩
        rw [heb2] at HEN HEE
        obtain ⟨k0, k1, k2, k3, k4, k5⟩ := rq_cells (F10.out.at (i := 0) rfl)
        obtain ⟨SW, hSW⟩ : ∃ SW, Value.slice (if c = 0 then A else A.map (·.add (0 * 1))) q c = SW := ⟨_, rfl⟩
        have hsw := fun w => run_slice_h (P := Try.prog) 26 5 1 Try.underlying26 (by kernel_rfl) A sl c q (by omega) w
        rw [hSW] at hsw
        have hpb := part_bytes (a := 0) (b := q) (rvs_cons.1 (F10.out.val (i := 2) rfl)).1 HSL.out (Nat.zero_le _) hqL
        rw [Nat.sub_zero, Nat.sub_zero, hSW] at hpb
        have hcw := conv_bytes hpb w10 (Below.refl _ _)
        rw [show pieceX s 0 q = s.take q from by unfold pieceX; rw [List.drop_zero, Nat.sub_zero]] at hcw
        clear hdz heb2 hSW hpb HCT
        have hqI : ¬ (sl : Int) < (q : Int) := by omega
        have hdI : ¬ (256 : Int) < (dz : Int) := by omega
        rw [show rqC (conc z) (.slice Az dz cz) b' = #[.int .u32 (conc z).next, (.slice Az dz cz), b', .bool (conc z).known, .int .u32 (conc z).fin, .bool (conc z).done] from rfl] at HEN
        clear hrl hls
        go_upto_region 14 with (fail)
        go_wp2_with fail
        refine HEN.out.mono ?_
        rintro e w11 ⟨rfl, hb⟩
        have F11 := Lib.hid (F10.out.call hb)
        clear hb F10 HEN k0 k1 k2 k3 k4 k5 hcv hcw hsw hta
        obtain ⟨k0, k1, k2, k3, k4, k5⟩ := rq_cells (F11.out.at (i := 0) rfl)
        have F12 : Hid (Frm w w11 [(g1, (rqC (conc z) (.slice Az dz cz) b'), 29)] [((rqC (conc z) (.slice Az dz cz) b').toList, rqD (conc z))]) := Lib.hid (F11.out.drop 0 rfl (fun p hp => by simp only [List.mem_cons, List.not_mem_nil, or_false] at hp ⊢; rcases hp with rfl; simp))
        clear F11
        cases eb2
        · go_wp2
          go_roundw
          case rel => exact ⟨i + 1, q, p', z, .slice Az dz cz, b', by omega, by go_num, rfl, HSZ, F12⟩
          case measure => simp [intOf]; omega
        · have hqe : q = sl := (HEE.out rfl).trans HSL.out
          subst hqe
          go_wp2
          go_roundw
          case rel => exact ⟨i + 1, q, p', z, .slice Az dz cz, b', by omega, by go_num, rfl, HSZ, F12⟩
          case measure => simp [intOf]; omega
    · obtain rfl : i = m := by omega
      obtain ⟨dv, hdv⟩ : ∃ dv, sl / 100 = dv := ⟨_, rfl⟩
      have hdq : (sl : Int) / 100 = (dv : Int) := by omega
      have hdq2 : (sl : Int).tdiv 100 = (dv : Int) := by rw [Int.tdiv_eq_ediv_of_nonneg (by omega)]; exact hdq
      have HDV := Lib.hid hdv
      clear hdv
      go_wp2
      go_loopw [8, 15] (fun t8 t15 wr => ∃ (j r p : Nat) (x : Rx) (a b : Value), j ≤ dv + 4 ∧ t15 = .int .i64 (j : Int) ∧ t8 = (.string ⟨(s.take r).toArray⟩) ∧ Hid (Str s n r p x) ∧ Hid (RR j p x) ∧ Hid (Frm w wr [(g1, (rqC (conc x) a b), 29)] [((rqC (conc x) a b).toList, rqD (conc x))])) (fun _ t15 _ => dv + 4 - (intOf t15).toNat)
      case atStart => exact ⟨0, r, p, x, vD, vA, Nat.zero_le _, rfl, rfl, HST, Lib.hid (.inl rfl), F1⟩
      case round =>
        clear F1 HST
        obtain ⟨j, r, p, x, vD, vA, hj, rfl, rfl, HST, HRR, F1⟩ := hrel
        have hrl : (⟨(s.take r).toArray⟩ : ByteArray).size = r := (txt_size _).trans (by rw [List.length_take, HSL.out]; have h1 := HST.out.rp; have h2 := HST.out.le; rw [HSL.out] at h2; omega)
        have hr6 : r ≤ sl := by have h1 := HST.out.rp; have h2 := HST.out.le; rw [HSL.out] at h2; omega
        by_cases hjl : j ≤ dv + 3
        · have F4 : Hid (Frm w wr [(g1, (rqC (conc x) vD vA), 29)] [([.slice A sl c], [bytesD s]), ((rqC (conc x) vD vA).toList, rqD (conc x))]) := Lib.hid (F1.out.add (F1.out.old (rvs_cons.2 ⟨HRS.out, rvs_nil⟩)))
          clear F1
          have hjI : (j : Int) ≤ (dv : Int) + 3 := by omega
          obtain ⟨T, hT⟩ : ∃ T, min sl (r + 100) = T := ⟨_, rfl⟩
          have hfT : r ≤ T := by omega
          have hTL : T ≤ sl := by omega
          have HTT := Lib.hid hT
          clear hT
          rename World => w5
          go_upto_region 21 with (fail)
          go_cut [17] (fun t17 wx => Hid (t17 = .int .i64 (T : Int)) ∧ Hid (w5 = wx))
          case first =>
            rcases Nat.lt_trichotomy sl (r + 100) with h | h | h
            · have hTe : Hid (T = sl) := by have := HTT.out; show _ = _; omega
              have hb : (sl : Int) < (r : Int) + 100 := by omega
              go_wp2
              go_meet
              case rel => exact ⟨Lib.hid (by rw [hTe.out]), Lib.hid rfl⟩
            · have hTe : Hid (T = sl) := by have := HTT.out; show _ = _; omega
              have hb : (sl : Int) = (r : Int) + 100 := by omega
              have HB := Lib.hid hb
              go_wp2
              go_meet
              case rel => exact ⟨Lib.hid (by rw [hTe.out, HB.out]), Lib.hid rfl⟩
            · have hTe : Hid ((T : Int) = (r : Int) + 100) := by have := HTT.out; show _ = _; omega
              have hb : (r : Int) + 100 < (sl : Int) := by omega
              go_wp2
              go_meet
              case rel => exact ⟨Lib.hid (by rw [hTe.out]), Lib.hid rfl⟩
          case rest =>
            obtain ⟨h17, hx⟩ := hcut
            obtain rfl := h17.out
            obtain rfl := hx.out
            clear h17 hx
            obtain ⟨AT, hAT⟩ : ∃ AT, addS n r = AT := ⟨_, rfl⟩
            have HAU : Hid (U32 AT) := by rw [← hAT]; exact ⟨addS_ge _ _, addS_le _ _⟩
            have hwa : IntKind.u32.wrap (n + IntKind.u32.wrap (r : Int)) = AT := by rw [IntKind.wrap_u32', IntKind.wrap_u32']; exact (wrap_add n r).trans hAT
            obtain ⟨EB, hEB⟩ : ∃ EB, decide (T = s.length) = EB := ⟨_, rfl⟩
            have heb : decide ((T : Int) = (sl : Int)) = EB := by rw [← hEB, HSL.out]; exact decide_eq_decide.2 (by omega)
            have heb2 : ((T : Int) == (sl : Int)) = EB := by rw [← heb]; rfl
            obtain ⟨D, hD⟩ : ∃ D, pieceX s r T = D := ⟨_, rfl⟩
            obtain ⟨y, hy⟩ : ∃ y, acceptX x AT D EB = y := ⟨_, rfl⟩
            have HOY : Hid (OkX y) := by rw [← hy]; exact accept_ok HST.out.ok AT D EB
            have hstr := str_round HST.out (by rw [HSL.out]; omega) HRR.out (T := T) (by rw [HSL.out]; exact HTT.out.symm)
            rw [hAT, hD, hEB, hy] at hstr
            have HD10 : Hid (D.length ≤ 1000) := by show _ ≤ _; rw [← hD, piece_len hfT (by rw [HSL.out]; exact hTL)]; omega
            obtain ⟨SV, hSV⟩ : ∃ SV, Value.slice (if c = r then A else A.map (·.add (r * 1))) (T - r) (c - r) = SV := ⟨_, rfl⟩
            have hrun := fun w => run_slice_lh (P := Try.prog) 26 5 1 Try.underlying26 (by kernel_rfl) A sl c r T hfT (by omega) w
            rw [hSV] at hrun
            have HRUN := Lib.hid hrun
            have HPB := Lib.hid (part_bytes (rvs_cons.1 (F4.out.val (i := 0) rfl)).1 HSL.out hfT hTL)
            rw [hSV, hD] at HPB
            have HCA := Lib.hid (fun w' S S2 (hr : Rvs w' S (rqC (conc x) vD vA).toList (rqD (conc x))) (hv : Rv w' S2 SV (bytesD D)) => accept_any x (rqC (conc x) vD vA) S S2 AT SV D EB w' hr HST.out.ok HAU.out hv HD10.out)
            rw [hy] at HCA
            clear hAT hEB hD hy hSV hrun
            have HSTR := Lib.hid hstr
            clear hstr
            have HX1 := Lib.hid (F4.out.at (i := 0) rfl)
            have HR1 : Hid (Rvs w5 (Nv [g1]) (rqC (conc x) vD vA).toList (rqD (conc x))) := Lib.hid (F4.out.val (i := 1) rfl)
            have HR0 : Hid (Rvs w5 (Nv [g1]) [SV] [bytesD D]) := Lib.hid (rvs_cons.2 ⟨HPB.out, rvs_nil⟩)
            have HS1 : Hid (¬ (Nv [g1]) g1) := Lib.hid (fun h => h (by simp))
            have HBIG : Hid (∀ b, w5.heap.size ≤ b → (Nv [g1]) b) := Lib.hid (fun b hb hm => by
              have := F4.out.lt b hm
              omega)
            go_upto_region 22 with (fail)
            clear HPB
            apply wp_region_relyG [14] (OldD1 w5 (Nv [g1]) 14 g1 29 (rqC (conc x) vD vA) (rqD (conc y))) (RL [Is (.agg (rqC (conc x) vD vA)), Is _, Is _, Is _, Is (.int .u32 AT), Is _, Is _, Is _, Is SV, Is _, Is _, Is _, Is (.bool EB), Rd1 (Nv [g1]) (rqD (conc y)), Any]) [false, false, false, false, false, false, false, false, false, false, false, false, false, false, false, false, false, false, false, false, false, false, false, false, false, false, false, false, false, false, false, false, false, false, false, false, false, false, false, false, false, false, false, false, false, false, false, false, false, false, false, false, false, false, false, false, false, false, false, false, false, false, false, false, false, false, false, false, false, false, false, false, false, false, false, false, false, false, false, false, false, false, false, false, false, false, false, false, false, false, false, false, false, false, false, false, false, false, false, false, false, false, false, false, false, false, false, false, false, false, false, false, false, false, false, false, false, false, false, false, false, false, false, false, false, false, false, false, false, false, false, false, false, true, true, true, true, true, true, true, true, true, true, true, true, true, true, false, false, false, false, false, false, false, false, false, false, false, false, false, false, false, false, false, false, false, false, false, false, false, false, false, false, false, false, false]
            · kernel_rfl
            · kernel_rfl
            · kernel_rfl
            · refine ⟨?_, ?_, ?_, ?_, ?_, ?_, ?_, ?_, ?_, ?_, ?_, ?_, ?_, ?_, ?_, trivial⟩
              · intro L ev w' hC hL hx K hK
                have e7 : ev (.tmp 7) = _ := hx.base 7 (by kernel_rfl)
                have HK := Lib.hid hK
                have HC := Lib.hid hC
                have HL := Lib.hid hL
                have HX := Lib.hid hx
                have hc := hx.cst
                skip
                clear hx hK hC hL
                have nst : L 14 = false := Bool.eq_false_iff.2 fun h => by have h9 := (HX.out.closed 13 _ 0 rfl (HX.out.closed 14 _ 13 rfl h (by kernel_rfl)) (by kernel_rfl)); rw [HL.out] at h9; cases h9
                have q1 : ev (.tmp 7) = .pointer (some ⟨g1, 0, none⟩) := e7
                have hld := run_loadVar_row (P := Try.prog) w' g1 29 29 (rqC (conc x) vD vA) (0, 0) _ (HC.out.old nst) Try.underlying29 rfl (by kernel_rfl)
                unfold Run
                rw [rely_load 29 _ rfl q1 hld]
                exact HK.out _ _ (.inl ⟨Below.refl _ _, by decide⟩) rfl
              · intro L ev w' hC hL hx K hK
                have e0 : ev (.tmp 0) = _ := hx.base 0 (by kernel_rfl)
                have HK := Lib.hid hK
                have HC := Lib.hid hC
                have HL := Lib.hid hL
                have HX := Lib.hid hx
                have hc := hx.cst
                skip
                clear hx hK hC hL
                unfold Run
                simp [execOp, Upon, go_sem, *]
                exact HK.out _ _ (.inl ⟨Below.refl _ _, by decide⟩) rfl
              · intro L ev w' hC hL hx K hK
                have e16 : ev (.tmp 16) = _ := hx.base 16 (by kernel_rfl)
                have HK := Lib.hid hK
                have HC := Lib.hid hC
                have HL := Lib.hid hL
                have HX := Lib.hid hx
                have hc := hx.cst
                skip
                clear hx hK hC hL
                unfold Run
                simp [execOp, Upon, go_sem, *]
                exact HK.out _ _ (.inl ⟨Below.refl _ _, by decide⟩) rfl
              · intro L ev w' hC hL hx K hK
                have e135 := hx.held 2 _ rfl (by kernel_rfl)
                change ev (.tmp 135) = _ at e135
                have HK := Lib.hid hK
                have HC := Lib.hid hC
                have HL := Lib.hid hL
                have HX := Lib.hid hx
                have hc := hx.cst
                skip
                clear hx hK hC hL
                unfold Run
                simp [execOp, Upon, go_sem, *]
                exact HK.out _ _ (.inl ⟨Below.refl _ _, by decide⟩) rfl
              · intro L ev w' hC hL hx K hK
                have e134 := hx.held 1 _ rfl (by kernel_rfl)
                have e136 := hx.held 3 _ rfl (by kernel_rfl)
                change ev (.tmp 134) = _ at e134
                change ev (.tmp 136) = _ at e136
                have HK := Lib.hid hK
                have HC := Lib.hid hC
                have HL := Lib.hid hL
                have HX := Lib.hid hx
                have hc := hx.cst
                skip
                clear hx hK hC hL
                unfold Run
                simp [execOp, Upon, go_sem, *]
                exact HK.out _ _ (.inl ⟨Below.refl _ _, by decide⟩) rfl
              · intro L ev w' hC hL hx K hK
                have e1 : ev (.tmp 1) = _ := hx.base 1 (by kernel_rfl)
                have HK := Lib.hid hK
                have HC := Lib.hid hC
                have HL := Lib.hid hL
                have HX := Lib.hid hx
                have hc := hx.cst
                skip
                clear hx hK hC hL
                unfold Run
                simp [execOp, Upon, go_sem, *]
                exact HK.out _ _ (.inl ⟨Below.refl _ _, by decide⟩) rfl
              · intro L ev w' hC hL hx K hK
                have e16 : ev (.tmp 16) = _ := hx.base 16 (by kernel_rfl)
                have HK := Lib.hid hK
                have HC := Lib.hid hC
                have HL := Lib.hid hL
                have HX := Lib.hid hx
                have hc := hx.cst
                skip
                clear hx hK hC hL
                unfold Run
                simp [execOp, Upon, go_sem, *]
                exact HK.out _ _ (.inl ⟨Below.refl _ _, by decide⟩) rfl
              · intro L ev w' hC hL hx K hK
                have e17 : ev (.tmp 17) = _ := hx.base 17 (by kernel_rfl)
                have HK := Lib.hid hK
                have HC := Lib.hid hC
                have HL := Lib.hid hL
                have HX := Lib.hid hx
                have hc := hx.cst
                skip
                clear hx hK hC hL
                unfold Run
                simp [execOp, Upon, go_sem, *]
                exact HK.out _ _ (.inl ⟨Below.refl _ _, by decide⟩) rfl
              · intro L ev w' hC hL hx K hK
                have e138 := hx.held 5 _ rfl (by kernel_rfl)
                have e139 := hx.held 6 _ rfl (by kernel_rfl)
                have e140 := hx.held 7 _ rfl (by kernel_rfl)
                change ev (.tmp 138) = _ at e138
                change ev (.tmp 139) = _ at e139
                change ev (.tmp 140) = _ at e140
                have HK := Lib.hid hK
                have HC := Lib.hid hC
                have HL := Lib.hid hL
                have HX := Lib.hid hx
                have hc := hx.cst
                skip
                clear hx hK hC hL
                have hx2 : ev (.tmp 138) = .slice A sl c := e138
                have ha2 : ev (.tmp 139) = .int .i64 (r : Int) := e139
                have hb2 : ev (.tmp 140) = .int .i64 (T : Int) := e140
                unfold Run
                rw [run_sliceE 26 _ (some _) (some _) rfl Try.underlying26 hx2 (by simp only [Option.map_some, ha2, hb2]; exact HRUN.out _)]
                exact HK.out _ _ (.inl ⟨Below.refl _ _, by decide⟩) rfl
              · intro L ev w' hC hL hx K hK
                have e17 : ev (.tmp 17) = _ := hx.base 17 (by kernel_rfl)
                have HK := Lib.hid hK
                have HC := Lib.hid hC
                have HL := Lib.hid hL
                have HX := Lib.hid hx
                have hc := hx.cst
                skip
                clear hx hK hC hL
                unfold Run
                simp [execOp, Upon, go_sem, *]
                exact HK.out _ _ (.inl ⟨Below.refl _ _, by decide⟩) rfl
              · intro L ev w' hC hL hx K hK
                have e1 : ev (.tmp 1) = _ := hx.base 1 (by kernel_rfl)
                have HK := Lib.hid hK
                have HC := Lib.hid hC
                have HL := Lib.hid hL
                have HX := Lib.hid hx
                have hc := hx.cst
                skip
                clear hx hK hC hL
                unfold Run
                simp [execOp, Upon, go_sem, *]
                exact HK.out _ _ (.inl ⟨Below.refl _ _, by decide⟩) rfl
              · intro L ev w' hC hL hx K hK
                have e143 := hx.held 10 _ rfl (by kernel_rfl)
                change ev (.tmp 143) = _ at e143
                have HK := Lib.hid hK
                have HC := Lib.hid hC
                have HL := Lib.hid hL
                have HX := Lib.hid hx
                have hc := hx.cst
                skip
                clear hx hK hC hL
                unfold Run
                rw [run_lenE _ 26 5 Try.underlying26 rfl e143]
                exact HK.out _ _ (.inl ⟨Below.refl _ _, by decide⟩) rfl
              · intro L ev w' hC hL hx K hK
                have e142 := hx.held 9 _ rfl (by kernel_rfl)
                have e144 := hx.held 11 _ rfl (by kernel_rfl)
                change ev (.tmp 142) = _ at e142
                change ev (.tmp 144) = _ at e144
                have HK := Lib.hid hK
                have HC := Lib.hid hC
                have HL := Lib.hid hL
                have HX := Lib.hid hx
                have hc := hx.cst
                skip
                clear hx hK hC hL
                unfold Run
                simp [execOp, Upon, go_sem, *]
                exact HK.out _ _ (.inl ⟨Below.refl _ _, by decide⟩) rfl
              · intro L ev w' hC hL hx K hK
                have e133 := hx.held 0 _ rfl (by kernel_rfl)
                have e137 := hx.held 4 _ rfl (by kernel_rfl)
                have e141 := hx.held 8 _ rfl (by kernel_rfl)
                have e145 := hx.held 12 _ rfl (by kernel_rfl)
                change ev (.tmp 133) = _ at e133
                change ev (.tmp 137) = _ at e137
                change ev (.tmp 141) = _ at e141
                change ev (.tmp 145) = _ at e145
                have HK := Lib.hid hK
                have HC := Lib.hid hC
                have HL := Lib.hid hL
                have HX := Lib.hid hx
                have hc := hx.cst
                have hf := hx.fn
                clear hx hK hC hL
                unfold Run
                simp [execOp, Upon, go_sem, *]
                refine (HCA.out w' _ _ (HC.out.val HR1.out HS1.out) (rvs_cons.1 (HC.out.val HR0.out HS1.out)).1).mono ?_
                rintro e w2 ⟨cs', rfl, hr, hb⟩
                refine ⟨_, rfl, HK.out _ _ (.inl ⟨hb, by decide⟩) ⟨cs', rfl, hr.wide fun b hb2 => ?_⟩⟩
                rcases hb2 with hb2 | hb2
                · exact hb2
                · exact HBIG.out b (Nat.le_trans HC.out.1.size hb2)
              · intro L ev w' hC hL hx K hK
                have e7 : ev (.tmp 7) = _ := hx.base 7 (by kernel_rfl)
                have e146 := hx.held 13 _ rfl (by kernel_rfl)
                change (Rd1 (Nv [g1]) (rqD (conc y)) : Pred) (ev (.tmp 146)) w' at e146
                have HK := Lib.hid hK
                have HC := Lib.hid hC
                have HL := Lib.hid hL
                have HX := Lib.hid hx
                have hc := hx.cst
                skip
                clear hx hK hC hL
                obtain ⟨C, hC, hr⟩ := e146
                have qp : ev (.tmp 7) = .pointer (some ⟨g1, 0, none⟩) := e7
                have nst : L 14 = false := HL.out
                have hgh := HC.out.old nst
                have hsz : C.size = 6 := hr.1
                have hst := run_storeVar_row (P := Try.prog) w' g1 29 29 (rqC (conc x) vD vA) C hgh (by rw [hsz]; kernel_rfl) (by rw [hsz]; rfl) (Array.all_eq_true_iff_forall_mem.2 fun u hu => hr.ones u (by simpa using hu))
                unfold Run
                rw [rely_store 29 _ _ rfl qp hC hst]
                refine HK.out _ _ (.inr ⟨HC.out.store nst (by rw [hsz]; rfl) hr HS1.out, fun j hj hlj u hr => ?_⟩) trivial
                rcases j with _ | _ | _ | _ | _ | _ | _ | _ | _ | _ | _ | _ | _ | _ | _ | j
                · exact hr
                · exact hr
                · exact hr
                · exact hr
                · exact hr
                · exact hr
                · exact hr
                · exact hr
                · exact hr
                · exact hr
                · exact hr
                · exact hr
                · exact hr
                · exact rd1_set hr HS1.out _
                · exact absurd rfl hj
                · exact trivial
            · exact rl_mono ⟨is_mono _, is_mono _, is_mono _, is_mono _, is_mono _, is_mono _, is_mono _, is_mono _, is_mono _, is_mono _, is_mono _, is_mono _, is_mono _, rd1_mono _ _, any_mono, trivial⟩
            · exact fun L L' w' h1 hg => hg.agree (h1 14 (by simp))
            · exact fun L w' w'' hb hg => hg.below hb
            · exact OldD1.start HX1.out
            · simp
            intro us wr hG hH
            obtain ⟨-, -, -, -, -, -, -, -, -, -, -, -, -, -, -, -⟩ := hH
            simp only [fillM]
            obtain ⟨hG9, C1, hvn1, hrn1⟩ := OldD1.done hG
            have HVN1 := Lib.hid hvn1
            have HRN1 := Lib.hid hrn1
            have HG9 := Lib.hid hG9
            clear hG hG9 hvn1 hrn1
            generalize us 133 = v133
            generalize us 134 = v134
            generalize us 135 = v135
            generalize us 136 = v136
            generalize us 137 = v137
            generalize us 138 = v138
            generalize us 139 = v139
            generalize us 140 = v140
            generalize us 141 = v141
            generalize us 142 = v142
            generalize us 143 = v143
            generalize us 144 = v144
            generalize us 145 = v145
            generalize us 146 = v146
            obtain ⟨a, b, rfl, -⟩ := rq_of HRN1.out
            have F5 := Lib.hid (F4.out.put1 (i := 0) rfl HG9.out HVN1.out)
            have F6 : Hid (Frm w wr [(g1, (rqC (conc y) a b), 29)] [((rqC (conc y) a b).toList, rqD (conc y)), ([.slice A sl c], [bytesD s])]) := Lib.hid ((F5.out.drop (qs := [([.slice A sl c], [bytesD s])]) 0 rfl (fun p hp => by simp only [List.mem_cons, List.not_mem_nil, or_false] at hp ⊢; rcases hp with rfl; simp)).add HRN1.out)
            clear F4 F5 HG9 HVN1 HRN1 HX1 HR0 HR1 HS1 HBIG HCA HRUN HAU HD10 hwa heb heb2
            rename World => wq
            obtain ⟨p', hz1, hrr, hz2⟩ := HSTR.out
            obtain ⟨z, hz⟩ : ∃ z, readX y 1000 = z := ⟨_, rfl⟩
            obtain ⟨k, hk⟩ : ∃ k, cutX y 1000 = k := ⟨_, rfl⟩
            obtain ⟨LB, hLB⟩ : ∃ LB, y.data.take k = LB := ⟨_, rfl⟩
            have hlb2 : LB.length ≤ 256 := by rw [← hLB, List.length_take]; have := HOY.out.data; omega
            rw [hz] at hz1 hrr
            rw [hk, hLB] at hz2
            have HSZ := Lib.hid hz1
            have HRZ := Lib.hid hrr
            have HRE := Lib.hid (read_any y (rqC (conc y) a b) _ 1000 wq (F6.out.val (i := 0) rfl) HOY.out ⟨by decide, by decide⟩)
            rw [hz, hk, hLB] at HRE
            clear hz1 hz hk hLB hrr HSTR
            go_wp2_with (refine wpList_load_row rfl 29 _ rfl g1 rfl 29 (rqC (conc y) a b) (0, 0) _ (F6.out.at (i := 0) rfl) Try.underlying29 rfl (by kernel_rfl) ?_)
            refine HRE.out.mono ?_
            rintro e w8 ⟨cs', vb, rfl, hr, hrb, hb⟩
            obtain ⟨a', b', rfl, h1⟩ := rq_of hr
            have H1 := Lib.hid h1
            have F7 := Lib.hid ((F6.out.res hb hr).more F6.out (us := [vb]) (ds := [bytesD LB]) (rvs_cons.2 ⟨hrb, rvs_nil⟩))
            clear h1 hr hrb hb F6 HRE
            go_upto_region 24 with (first | (refine wpList_store_new rfl 29 _ _ rfl w8 #[.int .u32 0, .slice none 0 0, .slice none 0 0, .bool false, .int .u32 0, .bool false] (rqC (conc z) a' b') rfl rfl (by kernel_rfl) rfl H1.out ?_) | go_in)
            have F8 := Lib.hid (F7.out.alloc (rqC (conc z) a' b') 29)
            obtain ⟨gn, hgn⟩ : ∃ gn, w8.heap.size = gn := ⟨_, rfl⟩
            rw [hgn] at F8 ⊢
            generalize w8.alloc (.cells (rqC (conc z) a' b') 29) = w9 at F8 ⊢
            clear F7 hgn
            go_upto_region 25 with (first | (refine wpList_load_row rfl 29 _ rfl gn rfl 29 (rqC (conc z) a' b') (0, 0) _ (F8.out.at (i := 0) rfl) Try.underlying29 rfl (by kernel_rfl) ?_) | (refine wpList_store_row rfl 29 _ _ rfl g1 (rqC (conc z) a' b') rfl rfl 29 (rqC (conc y) a b) (F8.out.at (i := 1) rfl) (by kernel_rfl) rfl H1.out ?_) | go_in)
            have F9 := Lib.hid (F8.out.put (i := 1) rfl (rqC (conc z) a' b'))
            have F10 : Hid (Frm w (w9.setRow g1 (rqC (conc z) a' b')) [(g1, (rqC (conc z) a' b'), 29)] [([vb], [bytesD LB]), ((rqC (conc z) a' b').toList, rqD (conc z)), ([.slice A sl c], [bytesD s])]) := Lib.hid (F9.out.drop 1 rfl (fun p hp => by simp only [List.mem_cons, List.not_mem_nil, or_false] at hp ⊢; rcases hp with rfl | rfl | rfl <;> simp))
            generalize w9.setRow g1 (rqC (conc z) a' b') = w10 at F10 ⊢
            clear F8 F9 H1
            have hcv := conv_bytes (rvs_cons.1 (F10.out.val (i := 0) rfl)).1 w10 (Below.refl _ _)
            obtain ⟨lb, hlb⟩ : ∃ lb, LB.length = lb := ⟨_, rfl⟩
            rw [hlb] at hlb2
            have hls : (⟨LB.toArray⟩ : ByteArray).size = lb := (txt_size _).trans hlb
            have hta := txt_add (s.take r) LB
            rw [hz2] at hta
            have F12 : Hid (Frm w w10 [(g1, (rqC (conc z) a' b'), 29)] [((rqC (conc z) a' b').toList, rqD (conc z))]) := Lib.hid (F10.out.drop 0 rfl (fun p hp => by simp only [List.mem_cons, List.not_mem_nil, or_false] at hp ⊢; rcases hp with rfl; simp))
            clear hz2 hlb F10 hjI HTT
            go_wp2
            go_roundw
            case rel => exact ⟨j + 1, p', p', z, a', b', by omega, by go_num, rfl, HSZ, HRZ, F12⟩
            case measure => simp [intOf]; omega
        · have hjI : ¬ (j : Int) ≤ (dv : Int) + 3 := by omega
          obtain ⟨hx1, hx2, hx3, hx4⟩ := str_end HST.out HRR.out (by rw [HSL.out, HDV.out]; omega)
          have F4 : Hid (Frm w wr [(g1, (rqC (conc x) vD vA), 29)] [([.slice A sl c], [bytesD s]), ((rqC (conc x) vD vA).toList, rqD (conc x))]) := Lib.hid (F1.out.add (F1.out.old (rvs_cons.2 ⟨HRS.out, rvs_nil⟩)))
          clear F1
          rw [hx3, List.take_length]
          have hcv := conv_bytes (rvs_cons.1 (F4.out.val (i := 0) rfl)).1 wr (Below.refl _ _)
          have HEN := Lib.hid (ended_any x _ _ wr (F4.out.val (i := 1) rfl) HST.out.ok)
          rw [show (x.done && x.data.isEmpty) = true from by rw [hx1, hx2]; rfl] at HEN
          obtain ⟨k0, k1, k2, k3, k4, k5⟩ := rq_cells (F4.out.at (i := 0) rfl)
          rw [show rqC (conc x) vD vA = #[.int .u32 (conc x).next, vD, vA, .bool (conc x).known, .int .u32 (conc x).fin, .bool (conc x).done] from rfl] at HEN
          obtain ⟨NX, hNX⟩ : ∃ NX, (conc x).next = NX := ⟨_, rfl⟩
          have hnx2 : ((n + (sl : Int) % 4294967296) % 4294967296 + 1) % 4294967296 = NX := by
            rw [← hNX]
            show _ = x.next
            rw [hx4, HSL.out]
            unfold addS
            omega
          have hnx3 : (n + (sl : Int) + 1) % 4294967296 = NX := by rw [← hnx2]; omega
          rw [hNX] at k0 HEN
          have HNX := Lib.hid hNX
          clear hx1 hx2 hx3 hx4 hNX hrl HST HRR
          go_wp2_with fail
          refine HEN.out.mono ?_
          rintro e w11 ⟨rfl, hb⟩
          have F11 := Lib.hid (F4.out.call hb)
          clear hb F4 HEN k0 k1 k2 k3 k4 k5 hcv
          obtain ⟨k0, -⟩ := rq_cells (F11.out.at (i := 0) rfl)
          rw [HNX.out] at k0
          have HBE := Lib.hid F11.out.below
          clear F11
          go_wp2
          go_ret
          exact ⟨by first | rfl | simp [*], HBE.out⟩
end Go.Proofs.Ytdgfhcojmfgimaa
