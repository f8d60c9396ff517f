/-
  recvq.wanted: the bytes of a piece that lie in the window, ahead of the end. Every state and piece of not too many bytes.
-/
import Derived.Test.YtdgfhcojmfgimaaRdc
import Derived.Test.YtdgfhcojmfgimaaRqz
import Derived.Test.YtdgfhcojmfgimaaSto
namespace Go.Proofs.Ytdgfhcojmfgimaa
open Go.RowKit

theorem pcx_ones (s : Int) (A : Option Addr) (n c : Nat) : (#[.int .u32 s, .slice A n c] : Array Value).all (·.oneCell') = true := all_one (cs := [.int .u32 s, .slice A n c]) (by intro u hu; simp at hu; rcases hu with rfl | rfl <;> rfl)
/-- the bytes of a piece that are wanted -/
def roomQ (q : Rq) : Int := if q.known = true then min (256 - (q.data.length : Int)) (diffS q.fin q.next) else 256 - q.data.length
def fromW (q : Rq) (a : Int) : Int := max 0 (-diffS a q.next)
def toW (q : Rq) (a : Int) (D : List UInt8) : Int := min D.length (roomQ q - diffS a q.next)
def wantQ (q : Rq) (a : Int) (D : List UInt8) : Pc := if toW q a D ≤ fromW q a then ⟨0, []⟩ else ⟨addS a (fromW q a), pieceX D (fromW q a).toNat (toW q a D).toNat⟩
set_option maxRecDepth 100000 in
set_option maxHeartbeats 4000000 in
theorem wanted_any (lo lo2 : Nat) (q : Rq) (cs : Array Value) (a : Int) (v : Value) (D : List UInt8) (S : Nat → Prop) (w : World) (hq : RqT lo lo2 w cs q) (hl : q.data.length ≤ 1000) (hv : Rv w S v (bytesD D)) (hD : D.length ≤ 1000) : Calls Try.prog 26 #[.agg cs, .int .u32 a, v] w fun e w' => ∃ vp, e = .returned (.agg #[.int .u32 (wantQ q a D).seq, vp]) ∧ Rv w' S vp (bytesD (wantQ q a D).data) ∧ Below w.heap.size w w' := by
  obtain ⟨vD, vA, rfl, hDD, -, hA⟩ := hq
  have hDD := (own_tb hDD).rv
  obtain ⟨A, c, rfl, -, h92, h93, h94⟩ := rv_bytes.1 hv
  obtain ⟨n, hn⟩ : ∃ n, D.length = n := ⟨_, rfl⟩
  have HN := Lib.hid hn
  rw [hn] at hv h93 hD ⊢
  have HV := Lib.hid hv
  have hc63 : c ≤ 9223372036854775807 := by unfold maxLen at h94; omega
  have HWIN := Lib.hid (fun W (hb : Below w.heap.size w W) => win17 q vD vA (fun b => lo ≤ b) W (rv_below hDD hb) hl)
  obtain ⟨fi, hfi⟩ : ∃ fi, diffS a q.next = fi := ⟨_, rfl⟩
  have hfb := diff_lo17 a q.next
  rw [hfi] at hfb
  obtain ⟨gi, hgi⟩ : ∃ gi, diffS q.fin q.next = gi := ⟨_, rfl⟩
  have hgb := diff_lo17 q.fin q.next
  rw [hgi] at hgb
  obtain ⟨wi, hwi⟩ : ∃ wi : Int, 256 - (q.data.length : Int) = wi := ⟨_, rfl⟩
  have hwb : -744 ≤ wi ∧ wi ≤ 256 := by omega
  rw [hwi] at HWIN
  obtain ⟨R, hR⟩ : ∃ R, roomQ q = R := ⟨_, rfl⟩
  have HR : Hid (R = if q.known = true then min wi gi else wi) := by show _ = _; rw [← hR, ← hwi, ← hgi]; rfl
  obtain ⟨fr, hfr⟩ : ∃ fr, fromW q a = fr := ⟨_, rfl⟩
  have HFR : Hid (fr = max 0 (-fi)) := by show _ = _; rw [← hfr, ← hfi]; rfl
  obtain ⟨tt, htt⟩ : ∃ tt, toW q a D = tt := ⟨_, rfl⟩
  have HTT : Hid (tt = min (n : Int) (R - fi)) := by show _ = _; rw [← htt, ← hfi, ← hR, ← hn]; rfl
  have HWQ : Hid (wantQ q a D = if tt ≤ fr then ⟨0, []⟩ else ⟨addS a fr, pieceX D fr.toNat tt.toNat⟩) := by show _ = _; rw [← hfr, ← htt]; rfl
  obtain ⟨y, hy⟩ : ∃ y, wantQ q a D = y := ⟨_, rfl⟩
  rw [hy] at HWQ ⊢
  have HFI := Lib.hid hfi
  have HGI := Lib.hid hgi
  have hkn : q.known = true ∨ q.known = false := by cases q.known <;> simp
  clear hDD hA hv hn hfi hgi hwi hR hfr htt hy h92 h94 hl
  obtain ⟨w1, hw1⟩ : ∃ w1, (w.alloc (.cells (rqC q vD vA) 29)).alloc (.cells #[.int .u32 0, .slice none 0 0] 55) = w1 := ⟨_, rfl⟩
  have HB : Hid (Below w.heap.size w w1) := by rw [← hw1]; exact ((Below.refl _ _).alloc (Nat.le_refl _) _).alloc (by simp) _
  have HX : Hid (w1.heap[w.heap.size]? = some (.cells (rqC q vD vA) 29 (0, 0))) := by rw [← hw1]; exact old_alloc (heap_alloc_new w _) _
  have HZ : Hid (w1.heap[w.heap.size + 1]? = some (.cells #[.int .u32 0, .slice none 0 0] 55 (0, 0))) := by rw [← hw1]; exact new_at1 w _ _
  have HS1 : Hid (w1.heap.size = w.heap.size + 2) := by show _ = _; rw [← hw1]; simp
  have HW := Lib.hid hw1
  clear hw1
  go_enter Try.func26, Try.ntmps26
  go_upto_region 1 with (fail)
  change Code.wp _ _ _ _ ((w.alloc (.cells (rqC q vD vA) 29)).alloc (.cells #[.int .u32 0, .slice none 0 0] 55))
  rw [HW.out]
  clear HW
  have H13 := Lib.hid (var_cell HX.out 0 (v := .int .u32 q.next) rfl)
  have HLD : Hid (∀ w', Reg w1 w' → ∀ (j : Nat) v, (rqC q vD vA)[j]? = some v → w'.cell? ((⟨w.heap.size, 0, none⟩ : Addr).add j) = some v) := fun w' hr => var_all HX.out w' (reg_below hr)
  have HDF : Hid (∀ W, Calls Try.prog 33 #[.int .u32 a, .int .u32 q.next] W fun e w' => e = .returned (.int .i64 fi) ∧ Below W.heap.size W w') := fun W => by rw [← HFI.out]; exact sqdiff_b _ _ W
  have HBS : Hid (Below w1.heap.size w1 w1) := Below.refl _ _
  refine wp_region_quiet_below (by kernel_rfl) (by kernel_rfl) ?_
  (first | go_big_quiet_step (fail) | quiet_step (fail))
  (first | go_big_quiet_step (fail) | quiet_step (fail))
  (refine wpQuiet_step (fun K hK => ?_); refine quiet_load_cell (by kernel_rfl) 22 _ rfl ((⟨w.heap.size, 0, none⟩ : Addr).add 0) (by first | rfl | (simp [Act.eval, Addr.add_mid])) (.int .u32 q.next) _ H13.out Try.underlying22 rfl ?_; refine hK _ ?_; clear hK K; go_frame)
  quiet_step (first | (go_at_call 33; exact Calls.regrown_of (HDF.out _)))
  (refine wpQuiet_step (fun K hK => ?_); refine quiet_load_at (by kernel_rfl) 29 _ rfl ⟨w.heap.size, 0, none⟩ (by first | rfl | (simp [Act.eval, Addr.add_mid])) (rqC q vD vA) _ HLD.out Try.underlying29 rfl (by kernel_rfl) ?_; refine hK _ ?_; clear hK K; go_frame)
  quiet_step (first | (go_at_call 18; exact Calls.regrown_of (HWIN.out _ (HB.out.trans ((below_regrown _ _ _).mono HB.out.size)))))
  (first | go_big_quiet_step (fail) | quiet_step (fail))
  (first | go_big_quiet_step (fail) | quiet_step (fail))
  refine wpQuiet_nil ?_
  intro w9 hw9
  obtain ⟨⟨dq, osq⟩, rfl⟩ := hw9
  have HB12 := Lib.hid ((HBS.out).trans ((below_regrown w1 dq osq).mono (HBS.out).size))
  generalize Sort.grow (redrawn w1 dq) osq = w2 at *
  have HX2 := Lib.hid (old_below HX.out HB12.out (row_lt HX.out))
  have HZ2 := Lib.hid (old_below HZ.out HB12.out (row_lt HZ.out))
  have HB2 := Lib.hid (HB.out.trans (HB12.out.mono HB.out.size))
  clear HX HZ HB HB12 HBS HLD HDF HWIN H13 HS1
  obtain ⟨-, -, -, c3, c4, -⟩ := rq_cells HX2.out
  have c0 := (rq_cells HX2.out).1
  rcases hkn with hkn | hkn
  · rw [hkn] at c3
    have hRR : R = min wi gi := by rw [HR.out, if_pos hkn]
    have HRR := Lib.hid hRR
    go_upto_if 18 with (fail)
    go_cut [8] (fun t8 wx => t8 = .int .i64 R ∧ w2 = wx)
    case first =>
      rcases Int.lt_trichotomy wi gi with h | h | h
      all_goals
        clear hRR
        go_wp2_with fail
        refine (seqdiff_any _ _ _).mono ?_
        rintro e w3 ⟨rfl, rfl⟩
        rw [HGI.out]
        go_wp2
        go_meet
        case rel => exact ⟨by rw [HRR.out]; congr 1; omega, rfl⟩
    case rest =>
      obtain ⟨rfl, rfl⟩ := hcut
      have hRb : R ≤ 256 ∧ -2147483648 ≤ R := by omega
      clear c3 c4 hRR
      go_upto_region 4 with (fail)
      go_cut [7, 9, 10] (fun t7 t9 t10 wx => t7 = .int .i64 fi ∧ t9 = .int .i64 fr ∧ t10 = .int .i64 tt ∧ w2 = wx)
      case first =>
        have HNG : Hid (IntKind.i64.wrap (-fi) = -fi) := IntWalk.i64_in _ ⟨by omega, by omega⟩
        have HSB : Hid (IntKind.i64.wrap (R - fi) = R - fi) := IntWalk.i64_in _ ⟨by omega, by omega⟩
        have hng := HNG.out
        have hsb := HSB.out
        rcases Int.lt_trichotomy fi 0 with h1 | h1 | h1
        all_goals
          rcases Int.lt_trichotomy (R - fi) n with h2 | h2 | h2
          all_goals
            go_wp2
            go_meet
            case rel => exact ⟨by congr 1 <;> omega, by rw [HFR.out]; congr 1; omega, by rw [HTT.out]; congr 1; omega, rfl⟩
      case rest =>
        obtain ⟨rfl, rfl, rfl, rfl⟩ := hcut
        have hfr : 0 ≤ fr ∧ fr ≤ 2147483648 := by have := HFR.out; omega
        have htn : tt ≤ n ∧ -4294968000 ≤ tt := by have := HTT.out; omega
        by_cases hc : tt ≤ fr
        · have HY : Hid (y = ⟨0, []⟩) := by show _ = _; rw [HWQ.out, if_pos hc]
          go_wp2_with (first | (refine wpList_store_row rfl 55 _ _ rfl (w.heap.size + 1) #[.int .u32 0, .slice none 0 0] rfl rfl 55 #[.int .u32 0, .slice none 0 0] HZ2.out (by kernel_rfl) rfl (pcx_ones _ _ _ _) ?_))
          (try simp only [Exit.inBlock, Exit.then])
          refine ret_one (g := w.heap.size + 1) rfl rfl (setRow_heap _ _ _ _ _ _ HZ2.out) Try.underlying55 rfl (by kernel_rfl) rfl ?_
          exact ⟨.slice none 0 0, by rw [HY.out], by rw [HY.out]; exact nil_bytes, below_setRow HB2.out (by omega) _⟩
        · obtain ⟨f, rfl⟩ := Int.eq_ofNat_of_zero_le hfr.1
          obtain ⟨u, rfl⟩ := Int.eq_ofNat_of_zero_le (show 0 ≤ tt by omega)
          have hfu : f < u := by omega
          have hun : u ≤ n := by omega
          have HY : Hid (y = ⟨addS a f, pieceX D f u⟩) := by show _ = _; rw [HWQ.out, if_neg hc]; rfl
          obtain ⟨sa, hsa⟩ : ∃ sa, addS a (f : Int) = sa := ⟨_, rfl⟩
          rw [hsa] at HY
          have HADD : Hid (∀ W, Calls Try.prog 24 #[.int .u32 a, .int .i64 (f : Int)] W fun e w' => e = .returned (.int .u32 sa) ∧ Below W.heap.size W w') := fun W => by rw [← hsa]; exact sqadd_b _ _ W
          have HVP := Lib.hid (part_bytes HV.out HN.out (Nat.le_of_lt hfu) hun)
          obtain ⟨Ap, hAp⟩ : ∃ Ap : Option Addr, (if c = f then A else A.map (·.add (f * 1))) = Ap := ⟨_, rfl⟩
          obtain ⟨np, hnp⟩ : ∃ np, u - f = np := ⟨_, rfl⟩
          obtain ⟨cp, hcp⟩ : ∃ cp, c - f = cp := ⟨_, rfl⟩
          rw [hAp, hnp, hcp] at HVP
          have HRUN : Hid (∀ W : World, (Instr.slice 26 (.slice A n c) (some (.int .i64 (f : Int))) (some (.int .i64 (u : Int))) none).run Try.prog W = .ok (.slice Ap np cp) W) := fun W => by
            rw [← hAp, ← hnp, ← hcp]
            exact run_slice_lh (P := Try.prog) 26 5 1 Try.underlying26 (by kernel_rfl) A n c f u (Nat.le_of_lt hfu) (by omega) W
          clear hsa hAp hnp hcp hfr htn
          go_wp2_with fail
          apply wp_region_relyQ (fun _ => true) (fun k => k = (w.heap.size + 1)) (RL [Is _, Is _, Is (.int .u32 sa), Is _, Is _, Is _, Is (.slice Ap np cp), Is (.agg #[.int .u32 sa, .slice Ap np cp]), Sto (w.heap.size + 1) #[.int .u32 sa, .slice Ap np cp] 55]) [false, false, false, false, false, false, false, false, false, false, false, false, false, false, false, false, false, false, false, false, false, false, false, false, false, false, false, false, false, false, false, false, false, false, false, false, false, false, false, true, true, true, true, true, true, true, true]
          · kernel_rfl
          · kernel_rfl
          · kernel_rfl
          · refine ⟨?_, ?_, ?_, ?_, ?_, ?_, ?_, ?_, ?_, trivial⟩
            · refine ⟨rfl, ?_⟩
              refine (if_pos (by decide)).mpr ?_
              intro ev w' hC hc hf hb hr K hK
              have e1 : ev (.tmp 1) = _ := hb 1 (by kernel_rfl)
              have HK := Lib.hid hK
              have HC := Lib.hid hC
              clear hb hr hK hC hf
              unfold Run
              simp [execOp, Upon, go_sem, *]
              exact HK.out _ _ (.inl (Below.refl _ _)) rfl
            · refine ⟨rfl, ?_⟩
              refine (if_pos (by decide)).mpr ?_
              intro ev w' hC hc hf hb hr K hK
              have e9 : ev (.tmp 9) = _ := hb 9 (by kernel_rfl)
              have HK := Lib.hid hK
              have HC := Lib.hid hC
              clear hb hr hK hC hf
              unfold Run
              simp [execOp, Upon, go_sem, *]
              exact HK.out _ _ (.inl (Below.refl _ _)) rfl
            · refine ⟨rfl, ?_⟩
              refine (if_pos (by decide)).mpr ?_
              intro ev w' hC hc hf hb hr K hK
              have e39 := hr 0 _ rfl (by kernel_rfl)
              have e40 := hr 1 _ rfl (by kernel_rfl)
              change ev (.tmp 39) = _ at e39
              change ev (.tmp 40) = _ at e40
              have HK := Lib.hid hK
              have HC := Lib.hid hC
              clear hb hr hK hC
              unfold Run
              simp [execOp, Upon, go_sem, *]
              refine (HADD.out w').mono ?_
              rintro e w2 ⟨rfl, hb⟩
              exact ⟨_, rfl, HK.out _ _ (.inl hb) rfl⟩
            · refine ⟨rfl, ?_⟩
              refine (if_pos (by decide)).mpr ?_
              intro ev w' hC hc hf hb hr K hK
              have e2 : ev (.tmp 2) = _ := hb 2 (by kernel_rfl)
              have HK := Lib.hid hK
              have HC := Lib.hid hC
              clear hb hr hK hC hf
              unfold Run
              simp [execOp, Upon, go_sem, *]
              exact HK.out _ _ (.inl (Below.refl _ _)) rfl
            · refine ⟨rfl, ?_⟩
              refine (if_pos (by decide)).mpr ?_
              intro ev w' hC hc hf hb hr K hK
              have e9 : ev (.tmp 9) = _ := hb 9 (by kernel_rfl)
              have HK := Lib.hid hK
              have HC := Lib.hid hC
              clear hb hr hK hC hf
              unfold Run
              simp [execOp, Upon, go_sem, *]
              exact HK.out _ _ (.inl (Below.refl _ _)) rfl
            · refine ⟨rfl, ?_⟩
              refine (if_pos (by decide)).mpr ?_
              intro ev w' hC hc hf hb hr K hK
              have e10 : ev (.tmp 10) = _ := hb 10 (by kernel_rfl)
              have HK := Lib.hid hK
              have HC := Lib.hid hC
              clear hb hr hK hC hf
              unfold Run
              simp [execOp, Upon, go_sem, *]
              exact HK.out _ _ (.inl (Below.refl _ _)) rfl
            · refine ⟨rfl, ?_⟩
              refine (if_pos (by decide)).mpr ?_
              intro ev w' hC hc hf hb hr K hK
              have e42 := hr 3 _ rfl (by kernel_rfl)
              have e43 := hr 4 _ rfl (by kernel_rfl)
              have e44 := hr 5 _ rfl (by kernel_rfl)
              change ev (.tmp 42) = _ at e42
              change ev (.tmp 43) = _ at e43
              change ev (.tmp 44) = _ at e44
              have HK := Lib.hid hK
              have HC := Lib.hid hC
              clear hb hr hK hC hf
              have q42 : ev (.tmp 42) = .slice A n c := e42
              have hrun : (Instr.slice 26 (.slice A n c) (some (ev (.tmp 43))) (some (ev (.tmp 44))) none).run Try.prog w' = .ok (.slice Ap np cp) w' := by rw [e43, e44]; exact HRUN.out w'
              unfold Run
              rw [run_sliceE 26 _ (some _) (some _) rfl Try.underlying26 q42 hrun]
              exact HK.out _ _ (.inl (Below.refl _ _)) rfl
            · refine ⟨rfl, ?_⟩
              refine (if_pos (by decide)).mpr ?_
              intro ev w' hC hc hf hb hr K hK
              have e41 := hr 2 _ rfl (by kernel_rfl)
              have e45 := hr 6 _ rfl (by kernel_rfl)
              change ev (.tmp 41) = _ at e41
              change ev (.tmp 45) = _ at e45
              have HK := Lib.hid hK
              have HC := Lib.hid hC
              clear hb hr hK hC hf
              unfold Run
              simp [execOp, Upon, go_sem, *]
              exact HK.out _ _ (.inl (Below.refl _ _)) rfl
            · refine ⟨rfl, ?_⟩
              refine (if_pos (by decide)).mpr ?_
              intro ev w' hC hc hf hb hr K hK
              have e6 : ev (.tmp 6) = _ := hb 6 (by kernel_rfl)
              have e46 := hr 7 _ rfl (by kernel_rfl)
              change ev (.tmp 46) = _ at e46
              have HK := Lib.hid hK
              have HC := Lib.hid hC
              clear hb hr hK hC hf
              have qp : ev (.tmp 6) = .pointer (some ⟨(w.heap.size + 1), 0, none⟩) := e6
              obtain ⟨O9, hO9, hs9⟩ := HC.out.shape (w.heap.size + 1) _ _ _ HZ2.out
              have qv : ev (.tmp 46) = .agg #[.int .u32 sa, .slice Ap np cp] := e46
              have hs8 : O9.size = (#[.int .u32 sa, .slice Ap np cp] : Array Value).size := by rw [hs9]; rfl
              have hst := run_storeVar_row (P := Try.prog) w' (w.heap.size + 1) 55 55 O9 #[.int .u32 sa, .slice Ap np cp] hO9 (by kernel_rfl) hs8 (pcx_ones _ _ _ _)
              unfold Run
              rw [rely_store 55 _ _ rfl qp qv hst]
              refine HK.out _ _ (.inr ⟨groD_set (D := (fun k => k = (w.heap.size + 1))) (Gro.refl _) (rfl) hO9 hs8, fun j hj u hr => ?_⟩) (setRow_heap _ _ _ _ _ _ hO9)
              rcases j with _ | _ | _ | _ | _ | _ | _ | _ | _ | j
              · exact hr
              · exact hr
              · exact hr
              · exact hr
              · exact hr
              · exact hr
              · exact hr
              · exact hr
              · exact absurd rfl hj
              · exact trivial
          · exact rl_mono ⟨is_mono _, is_mono _, is_mono _, is_mono _, is_mono _, is_mono _, is_mono _, is_mono _, sto_mono _ _ _, trivial⟩
          intro us wr hG hH
          obtain ⟨-, -, -, -, -, -, -, -, h8, -⟩ := hH
          simp only [fillM]
          change (Sto (w.heap.size + 1) #[.int .u32 sa, .slice Ap np cp] 55 : Pred) undef wr at h8
          generalize us 39 = v39
          generalize us 40 = v40
          generalize us 41 = v41
          generalize us 42 = v42
          generalize us 43 = v43
          generalize us 44 = v44
          generalize us 45 = v45
          generalize us 46 = v46
          have HV1 : Hid (wr.heap[(w.heap.size + 1)]? = some (.cells #[.int .u32 sa, .slice Ap np cp] 55 (0, 0))) := h8
          clear h8
          have HBL : Hid (Below w.heap.size w wr) := HB2.out.trans (hG.below (fun k hk => by rw [hk]; omega) HB2.out.size)
          go_wp2
          (try simp only [Exit.inBlock, Exit.then])
          refine ret_one (g := w.heap.size + 1) rfl rfl HV1.out Try.underlying55 rfl (by kernel_rfl) rfl ?_
          exact ⟨_, by rw [HY.out], by rw [HY.out]; exact rv_below HVP.out HBL.out, HBL.out⟩
  · rw [hkn] at c3
    have hRR : R = wi := by rw [HR.out, if_neg (by simp [hkn])]
    have hRb : R ≤ 256 ∧ -2147483648 ≤ R := by omega
    go_upto_if 18 with (fail)
    subst hRR
    go_upto_region 4 with (fail)
    clear c3 c4
    go_upto_region 4 with (fail)
    go_cut [7, 9, 10] (fun t7 t9 t10 wx => t7 = .int .i64 fi ∧ t9 = .int .i64 fr ∧ t10 = .int .i64 tt ∧ w2 = wx)
    case first =>
      have HNG : Hid (IntKind.i64.wrap (-fi) = -fi) := IntWalk.i64_in _ ⟨by omega, by omega⟩
      have HSB : Hid (IntKind.i64.wrap (R - fi) = R - fi) := IntWalk.i64_in _ ⟨by omega, by omega⟩
      have hng := HNG.out
      have hsb := HSB.out
      rcases Int.lt_trichotomy fi 0 with h1 | h1 | h1
      all_goals
        rcases Int.lt_trichotomy (R - fi) n with h2 | h2 | h2
        all_goals
          go_wp2
          go_meet
          case rel => exact ⟨by congr 1 <;> omega, by rw [HFR.out]; congr 1; omega, by rw [HTT.out]; congr 1; omega, rfl⟩
    case rest =>
      obtain ⟨rfl, rfl, rfl, rfl⟩ := hcut
      have hfr : 0 ≤ fr ∧ fr ≤ 2147483648 := by have := HFR.out; omega
      have htn : tt ≤ n ∧ -4294968000 ≤ tt := by have := HTT.out; omega
      by_cases hc : tt ≤ fr
      · have HY : Hid (y = ⟨0, []⟩) := by show _ = _; rw [HWQ.out, if_pos hc]
        go_wp2_with (first | (refine wpList_store_row rfl 55 _ _ rfl (w.heap.size + 1) #[.int .u32 0, .slice none 0 0] rfl rfl 55 #[.int .u32 0, .slice none 0 0] HZ2.out (by kernel_rfl) rfl (pcx_ones _ _ _ _) ?_))
        (try simp only [Exit.inBlock, Exit.then])
        refine ret_one (g := w.heap.size + 1) rfl rfl (setRow_heap _ _ _ _ _ _ HZ2.out) Try.underlying55 rfl (by kernel_rfl) rfl ?_
        exact ⟨.slice none 0 0, by rw [HY.out], by rw [HY.out]; exact nil_bytes, below_setRow HB2.out (by omega) _⟩
      · obtain ⟨f, rfl⟩ := Int.eq_ofNat_of_zero_le hfr.1
        obtain ⟨u, rfl⟩ := Int.eq_ofNat_of_zero_le (show 0 ≤ tt by omega)
        have hfu : f < u := by omega
        have hun : u ≤ n := by omega
        have HY : Hid (y = ⟨addS a f, pieceX D f u⟩) := by show _ = _; rw [HWQ.out, if_neg hc]; rfl
        obtain ⟨sa, hsa⟩ : ∃ sa, addS a (f : Int) = sa := ⟨_, rfl⟩
        rw [hsa] at HY
        have HADD : Hid (∀ W, Calls Try.prog 24 #[.int .u32 a, .int .i64 (f : Int)] W fun e w' => e = .returned (.int .u32 sa) ∧ Below W.heap.size W w') := fun W => by rw [← hsa]; exact sqadd_b _ _ W
        have HVP := Lib.hid (part_bytes HV.out HN.out (Nat.le_of_lt hfu) hun)
        obtain ⟨Ap, hAp⟩ : ∃ Ap : Option Addr, (if c = f then A else A.map (·.add (f * 1))) = Ap := ⟨_, rfl⟩
        obtain ⟨np, hnp⟩ : ∃ np, u - f = np := ⟨_, rfl⟩
        obtain ⟨cp, hcp⟩ : ∃ cp, c - f = cp := ⟨_, rfl⟩
        rw [hAp, hnp, hcp] at HVP
        have HRUN : Hid (∀ W : World, (Instr.slice 26 (.slice A n c) (some (.int .i64 (f : Int))) (some (.int .i64 (u : Int))) none).run Try.prog W = .ok (.slice Ap np cp) W) := fun W => by
          rw [← hAp, ← hnp, ← hcp]
          exact run_slice_lh (P := Try.prog) 26 5 1 Try.underlying26 (by kernel_rfl) A n c f u (Nat.le_of_lt hfu) (by omega) W
        clear hsa hAp hnp hcp hfr htn
        go_wp2_with fail
        apply wp_region_relyQ (fun _ => true) (fun k => k = (w.heap.size + 1)) (RL [Is _, Is _, Is (.int .u32 sa), Is _, Is _, Is _, Is (.slice Ap np cp), Is (.agg #[.int .u32 sa, .slice Ap np cp]), Sto (w.heap.size + 1) #[.int .u32 sa, .slice Ap np cp] 55]) [false, false, false, false, false, false, false, false, false, false, false, false, false, false, false, false, false, false, false, false, false, false, false, false, false, false, false, false, false, false, false, false, false, false, false, false, false, false, false, true, true, true, true, true, true, true, true]
        · kernel_rfl
        · kernel_rfl
        · kernel_rfl
        · refine ⟨?_, ?_, ?_, ?_, ?_, ?_, ?_, ?_, ?_, trivial⟩
          · refine ⟨rfl, ?_⟩
            refine (if_pos (by decide)).mpr ?_
            intro ev w' hC hc hf hb hr K hK
            have e1 : ev (.tmp 1) = _ := hb 1 (by kernel_rfl)
            have HK := Lib.hid hK
            have HC := Lib.hid hC
            clear hb hr hK hC hf
            unfold Run
            simp [execOp, Upon, go_sem, *]
            exact HK.out _ _ (.inl (Below.refl _ _)) rfl
          · refine ⟨rfl, ?_⟩
            refine (if_pos (by decide)).mpr ?_
            intro ev w' hC hc hf hb hr K hK
            have e9 : ev (.tmp 9) = _ := hb 9 (by kernel_rfl)
            have HK := Lib.hid hK
            have HC := Lib.hid hC
            clear hb hr hK hC hf
            unfold Run
            simp [execOp, Upon, go_sem, *]
            exact HK.out _ _ (.inl (Below.refl _ _)) rfl
          · refine ⟨rfl, ?_⟩
            refine (if_pos (by decide)).mpr ?_
            intro ev w' hC hc hf hb hr K hK
            have e39 := hr 0 _ rfl (by kernel_rfl)
            have e40 := hr 1 _ rfl (by kernel_rfl)
            change ev (.tmp 39) = _ at e39
            change ev (.tmp 40) = _ at e40
            have HK := Lib.hid hK
            have HC := Lib.hid hC
            clear hb hr hK hC
            unfold Run
            simp [execOp, Upon, go_sem, *]
            refine (HADD.out w').mono ?_
            rintro e w2 ⟨rfl, hb⟩
            exact ⟨_, rfl, HK.out _ _ (.inl hb) rfl⟩
          · refine ⟨rfl, ?_⟩
            refine (if_pos (by decide)).mpr ?_
            intro ev w' hC hc hf hb hr K hK
            have e2 : ev (.tmp 2) = _ := hb 2 (by kernel_rfl)
            have HK := Lib.hid hK
            have HC := Lib.hid hC
            clear hb hr hK hC hf
            unfold Run
            simp [execOp, Upon, go_sem, *]
            exact HK.out _ _ (.inl (Below.refl _ _)) rfl
          · refine ⟨rfl, ?_⟩
            refine (if_pos (by decide)).mpr ?_
            intro ev w' hC hc hf hb hr K hK
            have e9 : ev (.tmp 9) = _ := hb 9 (by kernel_rfl)
            have HK := Lib.hid hK
            have HC := Lib.hid hC
            clear hb hr hK hC hf
            unfold Run
            simp [execOp, Upon, go_sem, *]
            exact HK.out _ _ (.inl (Below.refl _ _)) rfl
          · refine ⟨rfl, ?_⟩
            refine (if_pos (by decide)).mpr ?_
            intro ev w' hC hc hf hb hr K hK
            have e10 : ev (.tmp 10) = _ := hb 10 (by kernel_rfl)
            have HK := Lib.hid hK
            have HC := Lib.hid hC
            clear hb hr hK hC hf
            unfold Run
            simp [execOp, Upon, go_sem, *]
            exact HK.out _ _ (.inl (Below.refl _ _)) rfl
          · refine ⟨rfl, ?_⟩
            refine (if_pos (by decide)).mpr ?_
            intro ev w' hC hc hf hb hr K hK
            have e42 := hr 3 _ rfl (by kernel_rfl)
            have e43 := hr 4 _ rfl (by kernel_rfl)
            have e44 := hr 5 _ rfl (by kernel_rfl)
            change ev (.tmp 42) = _ at e42
            change ev (.tmp 43) = _ at e43
            change ev (.tmp 44) = _ at e44
            have HK := Lib.hid hK
            have HC := Lib.hid hC
            clear hb hr hK hC hf
            have q42 : ev (.tmp 42) = .slice A n c := e42
            have hrun : (Instr.slice 26 (.slice A n c) (some (ev (.tmp 43))) (some (ev (.tmp 44))) none).run Try.prog w' = .ok (.slice Ap np cp) w' := by rw [e43, e44]; exact HRUN.out w'
            unfold Run
            rw [run_sliceE 26 _ (some _) (some _) rfl Try.underlying26 q42 hrun]
            exact HK.out _ _ (.inl (Below.refl _ _)) rfl
          · refine ⟨rfl, ?_⟩
            refine (if_pos (by decide)).mpr ?_
            intro ev w' hC hc hf hb hr K hK
            have e41 := hr 2 _ rfl (by kernel_rfl)
            have e45 := hr 6 _ rfl (by kernel_rfl)
            change ev (.tmp 41) = _ at e41
            change ev (.tmp 45) = _ at e45
            have HK := Lib.hid hK
            have HC := Lib.hid hC
            clear hb hr hK hC hf
            unfold Run
            simp [execOp, Upon, go_sem, *]
            exact HK.out _ _ (.inl (Below.refl _ _)) rfl
          · refine ⟨rfl, ?_⟩
            refine (if_pos (by decide)).mpr ?_
            intro ev w' hC hc hf hb hr K hK
            have e6 : ev (.tmp 6) = _ := hb 6 (by kernel_rfl)
            have e46 := hr 7 _ rfl (by kernel_rfl)
            change ev (.tmp 46) = _ at e46
            have HK := Lib.hid hK
            have HC := Lib.hid hC
            clear hb hr hK hC hf
            have qp : ev (.tmp 6) = .pointer (some ⟨(w.heap.size + 1), 0, none⟩) := e6
            obtain ⟨O9, hO9, hs9⟩ := HC.out.shape (w.heap.size + 1) _ _ _ HZ2.out
            have qv : ev (.tmp 46) = .agg #[.int .u32 sa, .slice Ap np cp] := e46
            have hs8 : O9.size = (#[.int .u32 sa, .slice Ap np cp] : Array Value).size := by rw [hs9]; rfl
            have hst := run_storeVar_row (P := Try.prog) w' (w.heap.size + 1) 55 55 O9 #[.int .u32 sa, .slice Ap np cp] hO9 (by kernel_rfl) hs8 (pcx_ones _ _ _ _)
            unfold Run
            rw [rely_store 55 _ _ rfl qp qv hst]
            refine HK.out _ _ (.inr ⟨groD_set (D := (fun k => k = (w.heap.size + 1))) (Gro.refl _) (rfl) hO9 hs8, fun j hj u hr => ?_⟩) (setRow_heap _ _ _ _ _ _ hO9)
            rcases j with _ | _ | _ | _ | _ | _ | _ | _ | _ | j
            · exact hr
            · exact hr
            · exact hr
            · exact hr
            · exact hr
            · exact hr
            · exact hr
            · exact hr
            · exact absurd rfl hj
            · exact trivial
        · exact rl_mono ⟨is_mono _, is_mono _, is_mono _, is_mono _, is_mono _, is_mono _, is_mono _, is_mono _, sto_mono _ _ _, trivial⟩
        intro us wr hG hH
        obtain ⟨-, -, -, -, -, -, -, -, h8, -⟩ := hH
        simp only [fillM]
        change (Sto (w.heap.size + 1) #[.int .u32 sa, .slice Ap np cp] 55 : Pred) undef wr at h8
        generalize us 39 = v39
        generalize us 40 = v40
        generalize us 41 = v41
        generalize us 42 = v42
        generalize us 43 = v43
        generalize us 44 = v44
        generalize us 45 = v45
        generalize us 46 = v46
        have HV1 : Hid (wr.heap[(w.heap.size + 1)]? = some (.cells #[.int .u32 sa, .slice Ap np cp] 55 (0, 0))) := h8
        clear h8
        have HBL : Hid (Below w.heap.size w wr) := HB2.out.trans (hG.below (fun k hk => by rw [hk]; omega) HB2.out.size)
        go_wp2
        (try simp only [Exit.inBlock, Exit.then])
        refine ret_one (g := w.heap.size + 1) rfl rfl HV1.out Try.underlying55 rfl (by kernel_rfl) rfl ?_
        exact ⟨_, by rw [HY.out], by rw [HY.out]; exact rv_below HVP.out HBL.out, HBL.out⟩
end Go.Proofs.Ytdgfhcojmfgimaa
