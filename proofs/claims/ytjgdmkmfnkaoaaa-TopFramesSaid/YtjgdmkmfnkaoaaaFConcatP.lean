/-
  slices.Grow(nil, n) and slices.Concat of slices of parts: a new row with the parts, one slice's behind the other's. Every list of slices that read as parts. No condition.
-/
/-
  slices.Delete of one hole out of a row of the call's own. Every row, every place in it. No condition.
-/
/-
  The three rows that frag.lay fills: parts ahead of a piece, touched by it, and behind it; from where to where. No program's walk, no condition.
-/
import Derived.Test.YtjgdmkmfnkaoaaaFFits
import Derived.Lib.AppendZeros
import Derived.Laws.CopyRow
namespace Go.Proofs.Ytjgdmkmfnkaoaaa.F
open Go.RowKit

theorem PtT.below {w w' : World} {cs : List Value} {p : Pt} (h : PtT w cs p) (hb : Below w.heap.size w w') : PtT w' cs p := by
  obtain ⟨v, e, h1⟩ := h
  exact ⟨v, e, h1.below hb (Nat.le_refl _)⟩

set_option maxRecDepth 100000 in
theorem growp_zero (w : World) :
    Calls Try.prog 82 #[.slice none 0 0, .int .i64 0] w fun e w' => e = .returned (.slice none 0 0) ∧ w = w' := by
  go_enter Try.func82, Try.ntmps82
  go_wp2
  go_ret
  exact ⟨rfl, rfl⟩

set_option maxRecDepth 100000 in
set_option maxHeartbeats 400000 in
theorem growp_some (n : Nat) (w : World) (h0 : 0 < n) (hn : n ≤ 1000000) :
    Calls Try.prog 82 #[.slice none 0 0, .int .i64 n] w fun e w' => ∃ c, e = .returned (.slice (some ⟨w.heap.size, 0, none⟩) 0 c) ∧ w'.ownsRow w.heap.size 128 2 (.slice (some ⟨w.heap.size, 0, none⟩) 0 c) 0 [] ∧ Below w.heap.size w w' := by
  obtain ⟨i0, hi, hz0, hz1, hz2⟩ := info_parts info_pt
  have hrz : ∀ ty, (Builtin.append_ #[107, 3] ty #[.slice none 0 0, .int .i64 (n : Int)]).run Try.prog w = _ := fun ty =>
    Lib.run_append_nil_zeros w 107 3 ty 128 i0 (.agg #[.int .i64 0, .slice none 0 0]) .i64 .i64 Try.underlying107 Try.underlying3 hi hz0 n h0 (by omega) (by omega) (by rw [hz2]; omega)
  have hGn : n ≤ grownCap w n 0 128 := grownCap_ge w _ _ _
  have hGm := grownCap_le_maxLen w n 0 128 (by unfold maxLen; omega)
  obtain ⟨G, hG⟩ : ∃ G, G = grownCap w n 0 128 := ⟨_, rfl⟩
  rw [← hG] at hrz hGn hGm
  have HM := Lib.hid hGm
  have hG63 : G ≤ 9223372036854775807 := by unfold maxLen at hGm; omega
  clear hG hGm
  have hown : (w.drew.alloc (.cells (Builtin.zeroCells (Value.agg #[.int .i64 0, .slice none 0 0]).cells n ++ Builtin.zeroCells (Value.agg #[.int .i64 0, .slice none 0 0]).cells (G - n)) 128)).ownsRow w.heap.size 128 2 (.slice (some ⟨w.heap.size, 0, none⟩) 0 G) 0 [] := by
    refine World.ownsRow_made (base := w.heap.size) (size := 2) w.drew _ G (Nat.le_refl _) HM.out ?_
    simp [Builtin.zeroCells, Value.cells]
    omega
  have HO := Lib.hid hown
  have HB : Hid (Below w.heap.size w (w.drew.alloc (.cells (Builtin.zeroCells (Value.agg #[.int .i64 0, .slice none 0 0]).cells n ++ Builtin.zeroCells (Value.agg #[.int .i64 0, .slice none 0 0]).cells (G - n)) 128))) := ((Below.refl _ _).drew).alloc (Nat.le_refl _) _
  clear hown
  generalize w.drew.alloc (.cells (Builtin.zeroCells (Value.agg #[.int .i64 0, .slice none 0 0]).cells n ++ Builtin.zeroCells (Value.agg #[.int .i64 0, .slice none 0 0]).cells (G - n)) 128) = w1 at hrz HO HB
  go_enter Try.func82, Try.ntmps82
  go_wp2_with (at_builtin; refine Lib.wpList_append_run _ rfl _ _ _ _ rfl _ _ rfl rfl _ _ (hrz _) ?_)
  go_ret
  exact ⟨G, rfl, HO.out, HB.out⟩

theorem growp_any (n : Nat) (w : World) (hn : n ≤ 1000000) :
    Calls Try.prog 82 #[.slice none 0 0, .int .i64 n] w fun e w' => ∃ v, e = .returned v ∧ w'.ownsRow w.heap.size 128 2 v 0 [] ∧ Below w.heap.size w w' := by
  rcases Nat.eq_zero_or_pos n with rfl | h0
  · refine (growp_zero w).mono ?_
    rintro e w' ⟨rfl, rfl⟩
    exact ⟨_, rfl, World.ownsRow_nil _ _ _ _, Below.refl _ _⟩
  · refine (growp_some n w h0 hn).mono ?_
    rintro e w' ⟨c, rfl, h1, h2⟩
    exact ⟨_, rfl, h1, h2⟩

/-- slices of parts, each with its parts -/
def Slices (w : World) (vs : List Value) (pss : List (List Pt)) : Prop := vs.length = pss.length ∧ ∀ (i : Nat) (ps : List Pt), pss[i]? = some ps → ∃ v, vs[i]? = some v ∧ PtsT w v ps
theorem flatp_take {pss : List (List Pt)} {k : Nat} (hk : k < pss.length) : (pss.take (k + 1)).flatten = (pss.take k).flatten ++ pss[k] := by
  rw [List.take_succ_eq_append_getElem hk]
  simp only [List.flatten_append, List.flatten_cons, List.flatten_nil, List.append_nil]
theorem flatp_le (pss : List (List Pt)) (k : Nat) : (pss.take k).flatten.length ≤ pss.flatten.length := by
  have h : pss.flatten = (pss.take k).flatten ++ (pss.drop k).flatten := by rw [← List.flatten_append, List.take_append_drop]
  rw [h, List.length_append]
  omega

set_option maxRecDepth 100000 in
set_option maxHeartbeats 1000000 in
theorem concatp_any (ad : Addr) (c : Nat) (vs : List Value) (pss : List (List Pt)) (w : World) (h : Rd w 0 w.heap.size (some ad) vs) (hb : Slices w vs pss) (hl : pss.flatten.length ≤ 100000) (hps : pss.length ≤ 1000) :
    Calls Try.prog 78 #[.slice (some ad) pss.length c] w fun e w' => ∃ v xs, e = .returned v ∧ w'.ownsRow w.heap.size 128 2 v pss.flatten.length xs ∧ RowOf 2 (PtT w') xs pss.flatten ∧ Below w.heap.size w w' := by
  obtain ⟨i0, hi0, hz0, hz1, hz2⟩ := info_parts info_pt
  have HP := Lib.hid hb
  clear hb
  go_enter Try.func78, Try.ntmps78
  go_wp2
  go_loop [3, 11] (fun t i => ∃ k n : Nat, k ≤ pss.length ∧ i = .int .i64 k ∧ t = .int .i64 n ∧ Hid (n = (pss.take k).flatten.length)) (fun _ i => pss.length - (intOf i).toNat)
  case atStart => exact ⟨0, 0, Nat.zero_le _, rfl, rfl, rfl⟩
  case round =>
    obtain ⟨k, n, hk, rfl, rfl, HN⟩ := hrel
    have hnl : n ≤ 100000 := by have := HN.out; have := flatp_le pss k; omega
    by_cases hks : k < pss.length
    · obtain ⟨v, hv, A, c1, xs1, rfl, _⟩ := HP.out.2 k pss[k] (List.getElem?_eq_getElem hks)
      have hcell : w.cell? (ad.add k) = some (.slice A pss[k].length c1) := by
        obtain ⟨ad', e, _, _, hc⟩ := h k _ hv
        cases e
        exact hc
      have hft := congrArg List.length (flatp_take hks)
      rw [List.length_append] at hft
      obtain ⟨m, hm⟩ : ∃ m, pss[k].length = m := ⟨_, rfl⟩
      rw [hm] at hft hcell
      have hnm : n + m ≤ 100000 := by have := HN.out; have := flatp_le pss (k + 1); omega
      have HT : Hid (n + m = (pss.take (k + 1)).flatten.length) := by show _ = _; rw [hft, HN.out]
      clear hft hm hv
      go_wp2
      go_round
      case rel => exact ⟨k + 1, n + m, by omega, by go_num, by go_num, HT.out⟩
      case measure => simp [intOf]; omega
    · obtain rfl : k = pss.length := by omega
      have HNN : Hid (n = pss.flatten.length) := by have := HN.out; rw [List.take_length] at this; exact this
      clear HN
      go_wp2_with fail
      refine (growp_any n _ (by omega)).mono ?_
      rintro e w1 ⟨v, rfl, hown, hb1⟩
      go_wp2
      go_loopw [6, 27] (fun v i wr => ∃ (k : Nat) (xs : List Value), k ≤ pss.length ∧ i = .int .i64 k ∧ Hid (wr.ownsRow w.heap.size 128 2 v (pss.take k).flatten.length xs) ∧ Hid (RowOf 2 (PtT w) xs (pss.take k).flatten) ∧ Below w.heap.size w wr) (fun _ i _ => pss.length - (intOf i).toNat)
      case atStart => exact ⟨0, [], Nat.zero_le _, rfl, hown, Lib.hid RowOf.nil, hb1⟩
      case round =>
        obtain ⟨k, xs, hk, rfl, HOW, HRX, hbl⟩ := hrel
        clear hown hb1
        by_cases hks : k < pss.length
        · obtain ⟨v, hv, A, c1, xs1, rfl, htr, hrow, hlc, hcm, hA⟩ := HP.out.2 k pss[k] (List.getElem?_eq_getElem hks)
          have hcell : wr.cell? (ad.add k) = some (.slice A pss[k].length c1) := by
            obtain ⟨ad', e, _, _, hc⟩ := (h.below hbl (Nat.le_refl _)) k _ hv
            cases e
            exact hc
          have HA := Lib.hid hA
          have HRD := Lib.hid (htr.rd.below hbl (Nat.le_refl _))
          have HROW := Lib.hid hrow
          have hft := flatp_take hks
          have hftl := congrArg List.length hft
          rw [List.length_append] at hftl
          have hle := flatp_le pss (k + 1)
          have HF := Lib.hid hft
          have HFL := Lib.hid hftl
          obtain ⟨m, hm⟩ : ∃ m, pss[k].length = m := ⟨_, rfl⟩
          rw [hm] at hcell hftl
          have HM := Lib.hid hm
          obtain ⟨q, hq⟩ : ∃ q, (pss.take k).flatten.length = q := ⟨_, rfl⟩
          rw [hq] at hftl
          have hqm : q + m ≤ 100000 := by omega
          have HQ := Lib.hid hq
          have HL1 : Hid (xs1.length = m * 2) := by show _ = _; rw [hrow.1, hm]
          have H1X : Hid (∀ u ∈ xs1, u.oneCell' = true) := hrow.one_cell (fun _ _ h => h.one) (by decide)
          have HW : Hid (wr.ownsRow w.heap.size 128 2 u6 q xs) := by have := HOW.out; rw [HQ.out] at this; exact this
          have hz3 : (Value.agg #[.int .i64 0, .slice none 0 0]).cells.size = 2 := rfl
          clear hft hftl hle hv htr hrow hlc hcm hA hm hq HOW
          go_wp2_with (at_builtin; refine wpList_append_rdk (P := Try.prog) rfl _ _ 107 rfl w.heap.size 128 i0 _ 2 32 Try.underlying107 hi0 hz0 hz1 hz2 hz3 (by omega) _ q xs rfl HW.out A m c1 xs1 rfl HA.out HL1.out HRD.out H1X.out (by unfold maxLen; omega) (by omega) hbl.size ?_; intro v2 w2 hown2 hgrow2 _)
          have HB2 : Hid (Below w.heap.size w w2) := hbl.grown hgrow2 hbl.size fun g hg => (HW.out.lt g hg).1
          have HO2 : Hid (w2.ownsRow w.heap.size 128 2 v2 (pss.take (k + 1)).flatten.length (xs ++ xs1)) := by
            show w2.ownsRow _ _ _ _ _ _
            rw [HFL.out, HQ.out, HM.out]
            exact hown2
          have HR2 : Hid (RowOf 2 (PtT w) (xs ++ xs1) (pss.take (k + 1)).flatten) := by
            show RowOf _ _ _ _
            rw [HF.out]
            exact HRX.out.append HROW.out
          clear hown2 hgrow2
          go_roundw
          case rel => exact ⟨k + 1, xs ++ xs1, by omega, by go_num, HO2, HR2, HB2.out⟩
          case measure => simp [intOf]; omega
        · obtain rfl : k = pss.length := by omega
          rw [List.take_length] at HOW HRX
          have HO := Lib.hid HOW.out
          have HB := Lib.hid hbl
          have HRR : Hid (RowOf 2 (PtT wr) xs pss.flatten) := HRX.out.imp fun _ _ _ hp => hp.below hbl
          clear HOW hbl
          go_wp2
          go_ret
          exact ⟨_, xs, rfl, HO.out, HRR.out, HB.out⟩


theorem grown_below {w w' w2 : World} {row : Option Nat} (h : w.grownBy w' row) (hb : Below w'.heap.size w' w2) : w.grownBy w2 row :=
  ⟨hb.os.trans h.os, hb.tape.trans h.tape, hb.output.trans h.output, Nat.le_trans h.size hb.size, fun k hk hx => (hb.block k (Nat.lt_of_lt_of_le hk h.size)).trans (h.block k hk hx)⟩
theorem grown_setRow {w w' : World} {g : Nat} (h : w.grownBy w' (some g)) (cs : Array Value) : w.grownBy (w'.setRow g cs) (some g) :=
  ⟨h.os, h.tape, h.output, by simp; exact h.size, fun k hk hx => (setRow_other w' g k cs (fun e => hx (by rw [e]))).trans (h.block k hk hx)⟩
def zeroH : List Value := [.int .u8 0, .int .u8 0, .int .u8 0, .int .u8 0, .int .u8 0, .int .u8 0, .int .u8 0, .int .u8 0, .int .u8 0, .int .u16 0, .int .u8 0, .int .u64 0, .int .i64 0, .slice none 0 0]
theorem run_clear_hole (w : World) (g o c : Nat) (ty : TypeId) (cur : Array Value) (hg : w.heap[g]? = some (.cells cur 109 (0, 0))) (hf : o + 14 ≤ cur.size) :
    (Builtin.clear_ #[61] ty #[.slice (some ⟨g, o, none⟩) 1 c]).run Try.prog w = .ok (.tuple #[]) (w.setRow g (cur.toList.take o ++ zeroH ++ cur.toList.drop (o + 14)).toArray) := by
  have hv : ∀ w, (zeroValue 109).run Try.prog w = .ok (.agg zeroH.toArray) w := fun w => by kernel_rfl
  have hst := run_storeCells_at (P := Try.prog) g o 109 zeroH 0 cur w hg (by simpa [zeroH] using hf) (by intro v hv; simp [zeroH] at hv; rcases hv with rfl | rfl | rfl | rfl | rfl | rfl <;> rfl)
  have hzc : (Builtin.zeroCells (Value.agg zeroH.toArray).cells 1).toList = zeroH := by kernel_rfl
  rw [Nat.add_zero] at hst
  simp [Builtin.clear_, run_underlying Try.underlying61, hv, hzc, hst]
  rfl

set_option maxRecDepth 100000 in
set_option maxHeartbeats 4000000 in
theorem del_any (g q c i lo : Nat) (xs : List Value) (w : World) (hown : w.ownsRow lo 109 14 (.slice (some ⟨g, 0, none⟩) (q + 1) c) (q + 1) xs) (h1 : ∀ u ∈ xs, u.oneCell' = true) (hi : i ≤ q) (hq : q ≤ 100000) :
    Calls Try.prog 61 #[.slice (some ⟨g, 0, none⟩) (q + 1) c, .int .i64 (i : Int), .int .i64 ((i : Int) + 1)] w fun e w' => e = .returned (.slice (some ⟨g, 0, none⟩) q c) ∧ w'.ownsRow lo 109 14 (.slice (some ⟨g, 0, none⟩) q c) q (xs.take (i * 14) ++ xs.drop (i * 14 + 14)) ∧ w.grownBy w' (some g) := by
  obtain ⟨g', cap, cur, hv, hlo, hg, hqc, hcm, hcs, htk⟩ := ownk_some hown (by omega)
  injection hv with hv1 _ hv3
  injection hv1 with hv1
  injection hv1 with hv1
  subst hv1 hv3
  obtain ⟨i0, hi0, hz0, hz1, hz2⟩ := info_parts info_hk
  have hxl := hown.1
  obtain ⟨A2, hA2⟩ : ∃ A2, (if c = i + 1 then some (⟨g, 0, none⟩ : Addr) else (some (⟨g, 0, none⟩ : Addr)).map (·.add ((i + 1) * 14))) = A2 := ⟨_, rfl⟩
  have HA2 := Lib.hid hA2
  obtain ⟨news, hnews⟩ : ∃ news, xs.drop ((i + 1) * 14) = news := ⟨_, rfl⟩
  have hnl : news.length = (q - i) * 14 := by rw [← hnews, List.length_drop, hxl, ← Nat.sub_mul]; congr 1; omega
  obtain ⟨cur2, hcur2⟩ : ∃ cur2 : Array Value, (cur.toList.take (i * 14) ++ news ++ cur.toList.drop (i * 14 + news.length)).toArray = cur2 := ⟨_, rfl⟩
  have HAP : Hid (∀ w' : World, w'.heap[g]? = some (.cells cur 109 (0, 0)) → (Builtin.append_ #[61, 61] 61 #[.slice (some ⟨g, 0, none⟩) i c, .slice A2 (q - i) (c - (i + 1))]).run Try.prog w' = .ok (.slice (some ⟨g, 0, none⟩) q c) (w'.setRow g cur2)) := fun w' hg' => by
    obtain ⟨a, ha, hca⟩ : ∃ a : Addr, A2 = some a ∧ ∀ j u, news[j]? = some u → w'.cell? (a.add j) = some u := by
      rw [← hA2]
      by_cases hc : c = i + 1
      · refine ⟨⟨g, 0, none⟩, by rw [if_pos hc], fun j u hu => ?_⟩
        have := (List.getElem?_eq_some_iff.1 hu).1
        have hqi : q - i = 0 := by omega
        rw [hqi, Nat.zero_mul] at hnl
        omega
      · refine ⟨⟨g, (i + 1) * 14, none⟩, by rw [if_neg hc, Option.map_some, Addr.add_mid, Nat.zero_add], fun j u hu => ?_⟩
        rw [Addr.add_mid, cell_of_row _ _ _ _ _ _ hg', ← Array.getElem?_toList]
        rw [← hnews, List.getElem?_drop, ← htk, List.getElem?_take] at hu
        split at hu
        · exact hu
        · cases hu
    rw [ha]
    have := run_append_room (P := Try.prog) w' 61 61 109 i0 Try.underlying61 hi0 g i c cur hg' a (q - i) (c - (i + 1)) news (by rw [hz1]; exact hnl) hca
      (fun u hu => h1 u (by rw [← hnews] at hu; exact List.mem_of_mem_drop hu)) (by omega) (by rw [hz1, hnl, hcs]; have := Nat.mul_le_mul_right 14 (show i + (q - i) ≤ c by omega); rw [Nat.add_mul] at this; exact this)
    rw [hz1, show i + (q - i) = q from by omega, hcur2] at this
    exact this
  have HG := Lib.hid hg
  have HCS := Lib.hid hcs
  have HTK := Lib.hid htk
  have hqc2 : q + 1 ≤ c := hqc
  have hcm2 : c ≤ 9223372036854775807 := by unfold maxLen at hcm; omega
  have HC2 := Lib.hid hcur2
  have HLO := Lib.hid hlo
  have HNL := Lib.hid hnl
  have HNW := Lib.hid hnews
  have HXL := Lib.hid hxl
  clear hnl hi0 hz0 hz1 hz2 hg hcs htk hA2 hnews hcur2 hown h1 hxl hlo hcm
  go_enter Try.func61, Try.ntmps61
  go_wp2_with fail
  apply wp_region_relyG [6] (fun L w' => w.grownBy w' (some g) ∧ w'.heap[g]? = some (.cells (if L 6 then cur2 else cur) 109 (0, 0))) (RL [Is _, Is _, Is (.slice (some ⟨g, 0, none⟩) i c), Is _, Is _, Is (.slice A2 (q - i) (c - (i + 1))), Is (.slice (some ⟨g, 0, none⟩) q c), Is (.slice (some ⟨g, 0, none⟩) q c)]) [true, false, false, false, false, false, false, false, false, false, false, false, false, false, false, false, false, false, false, false, true, true, true, true, true, true, true, false, false, false, false, false, false]
  · kernel_rfl
  · kernel_rfl
  · kernel_rfl
  · refine ⟨?_, ?_, ?_, ?_, ?_, ?_, ?_, ?_, trivial⟩
    · intro L ev w' hC hL hx K hK
      have e0 : ev (.tmp 0) = _ := hx.old 7 _ 0 rfl rfl (Bool.eq_false_iff.2 fun h => by have h1 := hx.closed 7 _ 6 rfl h (by kernel_rfl); have h3 := hx.closed 6 _ 2 rfl h1 (by kernel_rfl); have h2 := hx.closed 2 _ 0 rfl h3 (by kernel_rfl); rw [hL] at h2; cases h2)
      have HK := Lib.hid hK
      have HC := Lib.hid hC
      have HL := Lib.hid hL
      have HX := Lib.hid hx
      have hc := hx.cst
      skip
      clear hx hK hC hL
      unfold Run
      simp [execOp, Upon, go_sem, *]
      exact HK.out _ _ (.inl ⟨Below.refl _ _, by decide⟩) rfl
    · intro L ev w' hC hL hx K hK
      have e1 : ev (.tmp 1) = _ := hx.base 1 (by kernel_rfl)
      have HK := Lib.hid hK
      have HC := Lib.hid hC
      have HL := Lib.hid hL
      have HX := Lib.hid hx
      have hc := hx.cst
      skip
      clear hx hK hC hL
      unfold Run
      simp [execOp, Upon, go_sem, *]
      exact HK.out _ _ (.inl ⟨Below.refl _ _, by decide⟩) rfl
    · intro L ev w' hC hL hx K hK
      have e20 := hx.held 0 _ rfl (by kernel_rfl)
      have e21 := hx.held 1 _ rfl (by kernel_rfl)
      change ev (.tmp 20) = _ at e20
      change ev (.tmp 21) = _ at e21
      have HK := Lib.hid hK
      have HC := Lib.hid hC
      have HL := Lib.hid hL
      have HX := Lib.hid hx
      have hc := hx.cst
      skip
      clear hx hK hC hL
      have q20 : ev (.tmp 20) = .slice (some ⟨g, 0, none⟩) (q + 1) c := e20
      have hrun : (Instr.slice 61 (.slice (some ⟨g, 0, none⟩) (q + 1) c) none (some (ev (.tmp 21))) none).run Try.prog w' = .ok (.slice (some ⟨g, 0, none⟩) i c) w' := by
        rw [e21]
        have := run_slice_h (P := Try.prog) 61 109 14 Try.underlying61 (by kernel_rfl) (some ⟨g, 0, none⟩) (q + 1) c i (by omega) w'
        rw [if_neg (by omega)] at this
        exact this
      unfold Run
      rw [run_sliceE 61 _ none (some _) rfl Try.underlying61 q20 hrun]
      exact HK.out _ _ (.inl ⟨Below.refl _ _, by decide⟩) rfl
    · intro L ev w' hC hL hx K hK
      have e0 : ev (.tmp 0) = _ := hx.old 7 _ 0 rfl rfl (Bool.eq_false_iff.2 fun h => by have h1 := hx.closed 7 _ 6 rfl h (by kernel_rfl); have h3 := hx.closed 6 _ 5 rfl h1 (by kernel_rfl); have h2 := hx.closed 5 _ 3 rfl h3 (by kernel_rfl); rw [hL] at h2; cases h2)
      have HK := Lib.hid hK
      have HC := Lib.hid hC
      have HL := Lib.hid hL
      have HX := Lib.hid hx
      have hc := hx.cst
      skip
      clear hx hK hC hL
      unfold Run
      simp [execOp, Upon, go_sem, *]
      exact HK.out _ _ (.inl ⟨Below.refl _ _, by decide⟩) rfl
    · intro L ev w' hC hL hx K hK
      have e2 : ev (.tmp 2) = _ := hx.base 2 (by kernel_rfl)
      have HK := Lib.hid hK
      have HC := Lib.hid hC
      have HL := Lib.hid hL
      have HX := Lib.hid hx
      have hc := hx.cst
      skip
      clear hx hK hC hL
      unfold Run
      simp [execOp, Upon, go_sem, *]
      exact HK.out _ _ (.inl ⟨Below.refl _ _, by decide⟩) rfl
    · intro L ev w' hC hL hx K hK
      have e23 := hx.held 3 _ rfl (by kernel_rfl)
      have e24 := hx.held 4 _ rfl (by kernel_rfl)
      change ev (.tmp 23) = _ at e23
      change ev (.tmp 24) = _ at e24
      have HK := Lib.hid hK
      have HC := Lib.hid hC
      have HL := Lib.hid hL
      have HX := Lib.hid hx
      have hc := hx.cst
      skip
      clear hx hK hC hL
      have q23 : ev (.tmp 23) = .slice (some ⟨g, 0, none⟩) (q + 1) c := e23
      have hrun : (Instr.slice 61 (.slice (some ⟨g, 0, none⟩) (q + 1) c) (some (ev (.tmp 24))) none none).run Try.prog w' = .ok (.slice A2 (q - i) (c - (i + 1))) w' := by
        rw [e24]
        have := run_slice_l (P := Try.prog) 61 109 14 Try.underlying61 (by kernel_rfl) (some ⟨g, 0, none⟩) (q + 1) c (i + 1) (by omega) w'
        rw [HA2.out, show q + 1 - (i + 1) = q - i from by omega] at this
        exact this
      unfold Run
      rw [run_sliceE 61 _ (some _) none rfl Try.underlying61 q23 hrun]
      exact HK.out _ _ (.inl ⟨Below.refl _ _, by decide⟩) rfl
    · intro L ev w' hC hL hx K hK
      have e22 := hx.held 2 _ rfl (by kernel_rfl)
      have e25 := hx.held 5 _ rfl (by kernel_rfl)
      change ev (.tmp 22) = _ at e22
      change ev (.tmp 25) = _ at e25
      have HK := Lib.hid hK
      have HC := Lib.hid hC
      have HL := Lib.hid hL
      have HX := Lib.hid hx
      have hc := hx.cst
      skip
      clear hx hK hC hL
      have hC := HC.out
      rw [HL.out] at hC
      obtain ⟨hC1, hC2⟩ := hC
      have hrun := HAP.out w' hC2
      have q22 : ev (.tmp 22) = .slice (some ⟨g, 0, none⟩) i c := e22
      have q25 : ev (.tmp 25) = .slice A2 (q - i) (c - (i + 1)) := e25
      have HC1 := Lib.hid hC1
      have HC2 := Lib.hid hC2
      clear hC1 hC2
      unfold Run
      rw [run_appendE _ _ 61 rfl q22 q25 hrun]
      refine HK.out _ _ (.inr ⟨⟨grown_setRow HC1.out _, setRow_heap _ _ _ _ _ _ HC2.out⟩, fun j hj hlj u hr => rl_sg (S := fun _ _ => True) (ex := []) 0 (by exact ⟨.inr (is_sg _ _), .inr (is_sg _ _), .inr (is_sg _ _), .inr (is_sg _ _), .inr (is_sg _ _), .inr (is_sg _ _), .inr (is_sg _ _), .inr (is_sg _ _), trivial⟩) j u _ _ rfl trivial hr⟩) rfl
    · intro L ev w' hC hL hx K hK
      have e26 := hx.held 6 _ rfl (by kernel_rfl)
      change ev (.tmp 26) = _ at e26
      have HK := Lib.hid hK
      have HC := Lib.hid hC
      have HL := Lib.hid hL
      have HX := Lib.hid hx
      have hc := hx.cst
      skip
      clear hx hK hC hL
      unfold Run
      simp [execOp, Upon, go_sem, *]
      exact HK.out _ _ (.inl ⟨Below.refl _ _, by decide⟩) rfl
  · exact rl_mono ⟨is_mono _, is_mono _, is_mono _, is_mono _, is_mono _, is_mono _, is_mono _, is_mono _, trivial⟩
  · exact fun L L' w1 he h => ⟨h.1, by rw [← he 6 (by simp)]; exact h.2⟩
  · exact fun L w1 w2 hb h => ⟨grown_below h.1 hb, (hb.block _ (row_lt h.2)).trans h.2⟩
  · exact ⟨World.grownBy.refl _ _, HG.out⟩
  · simp
  intro us wr hG hH
  obtain ⟨-, -, -, -, -, -, -, h7, -⟩ := hH
  simp only [fillM]
  change us 0 = _ at h7
  rw [h7]
  clear h7
  generalize us 20 = v20
  generalize us 21 = v21
  generalize us 22 = v22
  generalize us 23 = v23
  generalize us 24 = v24
  generalize us 25 = v25
  generalize us 26 = v26
  obtain ⟨g1, g2⟩ := hG
  have HG1 := Lib.hid g1
  have HG2 : Hid (wr.heap[g]? = some (.cells cur2 109 (0, 0))) := g2
  clear g1 g2
  have hl2 : cur2.toList.take (q * 14) = xs.take (i * 14) ++ xs.drop (i * 14 + 14) := by
    have e1 : cur.toList.take (i * 14) = xs.take (i * 14) := by rw [← HTK.out, List.take_take, Nat.min_eq_left (by omega)]
    have e2 : (cur.toList.take (i * 14)).length = i * 14 := by rw [e1, List.length_take, HXL.out]; omega
    rw [← HC2.out]
    show (cur.toList.take (i * 14) ++ news ++ _).take (q * 14) = _
    rw [List.take_left' (by rw [List.length_append, e2, HNL.out, ← Nat.add_mul]; congr 1; omega), e1, ← HNW.out]
    congr 2
    omega
  have hs2 : cur2.size = c * 14 := by
    rw [← HC2.out, List.size_toArray, List.length_append, List.length_append, List.length_take, List.length_drop, Array.length_toList, HCS.out, HNL.out]
    omega
  have hclr := run_clear_hole wr g (q * 14) (c - q) 0 cur2 HG2.out (by rw [hs2]; omega)
  obtain ⟨cur3, hcur3⟩ : ∃ cur3 : Array Value, (cur2.toList.take (q * 14) ++ zeroH ++ cur2.toList.drop (q * 14 + 14)).toArray = cur3 := ⟨_, rfl⟩
  rw [hcur3] at hclr
  have HT3 : Hid (cur3.toList.take (q * 14) = xs.take (i * 14) ++ xs.drop (i * 14 + 14)) := by
    rw [← hcur3]
    show (cur2.toList.take (q * 14) ++ zeroH ++ _).take (q * 14) = _
    rw [List.append_assoc, List.take_left' (by rw [List.length_take, Array.length_toList, hs2]; omega)]
    exact hl2
  have HS3 : Hid (cur3.size = c * 14) := by
    show _ = _
    rw [← hcur3, List.size_toArray, List.length_append, List.length_append, List.length_take, List.length_drop, Array.length_toList, hs2]
    simp only [zeroH, List.length_cons, List.length_nil]
    omega
  have HW3 := Lib.hid (setRow_heap wr g cur2 cur3 _ _ HG2.out)
  have HG3 := Lib.hid (grown_setRow HG1.out cur3)
  have HIQ := Lib.hid hi
  clear hl2 hs2 hcur3
  go_wp2
  go_ret
  refine ⟨rfl, ⟨?_, .inr ⟨g, c, cur3, rfl, HLO.out, HW3.out, by omega, by unfold maxLen; omega, HS3.out, HT3.out⟩⟩, HG3.out⟩
  rw [List.length_append, List.length_take, List.length_drop, HXL.out]
  have := HIQ.out
  omega


def Apart (a b : Value) : Prop := ∀ k, a.ownBlock = some k → b.ownBlock ≠ some k
theorem Apart.symm {a b : Value} (h : Apart a b) : Apart b a := fun k hk he => h k he hk
theorem apart_nil (b : Value) : Apart (.slice none 0 0) b := fun k hk => by cases hk
/-- a row of parts that the call owns -/
def OwnPs (w wr : World) (B : Nat) (v : Value) (ps : List Pt) : Prop := ∃ xs, wr.ownsRow B 128 2 v ps.length xs ∧ RowOf 2 (PtT w) xs ps
theorem OwnPs.below {w wr w2 : World} {B : Nat} {v : Value} {ps : List Pt} (h : OwnPs w wr B v ps) (hb : Below wr.heap.size wr w2) : OwnPs w w2 B v ps := by
  obtain ⟨xs, h1, h2⟩ := h
  exact ⟨xs, ownk_below h1 hb (Nat.le_refl _), h2⟩
theorem OwnPs.kept {w wr w2 : World} {B : Nat} {v v2 : Value} {ps : List Pt} (h : OwnPs w wr B v ps) (hg : wr.grownBy w2 v2.ownBlock) (ha : Apart v v2) : OwnPs w w2 B v ps := by
  obtain ⟨xs, h1, h2⟩ := h
  refine ⟨xs, h1.kept hg ?_, h2⟩
  cases hv : v.ownBlock with
  | none => exact .inl rfl
  | some k => exact .inr fun he => ha k hv he.symm
theorem OwnPs.lt {w wr : World} {B : Nat} {v : Value} {ps : List Pt} (h : OwnPs w wr B v ps) : ∀ k, v.ownBlock = some k → k < wr.heap.size := by
  obtain ⟨xs, h1, _⟩ := h
  exact fun k hk => (h1.lt k hk).2
theorem OwnPs.add {w w2 : World} {B : Nat} {v' : Value} {ps : List Pt} {xs cs : List Value} {pt : Pt} (ho : w2.ownsRow B 128 2 v' (ps.length + 1) (xs ++ cs)) (h2 : RowOf 2 (PtT w) xs ps) (hp : PtT w cs pt) : OwnPs w w2 B v' (ps ++ [pt]) :=
  ⟨xs ++ cs, by rw [List.length_append]; exact ho, h2.append (RowOf.one hp hp.len)⟩
theorem apart_new {w wr : World} {B : Nat} {v v1 v1' : Value} {ps : List Pt} (h : Apart v v1) (ho : OwnPs w wr B v ps) (hat : v1'.ownBlock = v1.ownBlock ∨ v1'.ownBlock = some wr.heap.size) : Apart v v1' := fun k hk he => by
  rcases hat with e | e
  · exact h k hk (e ▸ he)
  · rw [e] at he
    injection he with he
    have := ho.lt k hk
    omega
/-- the three rows -/
structure Three (w wr : World) (B : Nat) (p : Pk) (l : List Pt) (v5 v6 v7 : Value) : Prop where
  a : OwnPs w wr B v5 (l.filter (aheadB p))
  t : OwnPs w wr B v6 (l.filter (touchB p))
  b : OwnPs w wr B v7 (l.filter (behindB p))
  at_ : Apart v5 v6
  ab : Apart v5 v7
  tb : Apart v6 v7
theorem Three.nil (w wr : World) (B : Nat) (p : Pk) : Three w wr B p [] (.slice none 0 0) (.slice none 0 0) (.slice none 0 0) :=
  ⟨⟨[], World.ownsRow_nil _ _ _ _, RowOf.nil⟩, ⟨[], World.ownsRow_nil _ _ _ _, RowOf.nil⟩, ⟨[], World.ownsRow_nil _ _ _ _, RowOf.nil⟩, apart_nil _, apart_nil _, apart_nil _⟩
theorem Three.below {w wr w2 : World} {B : Nat} {p : Pk} {l : List Pt} {v5 v6 v7 : Value} (h : Three w wr B p l v5 v6 v7) (hb : Below wr.heap.size wr w2) : Three w w2 B p l v5 v6 v7 :=
  ⟨h.a.below hb, h.t.below hb, h.b.below hb, h.at_, h.ab, h.tb⟩
section
variable {w wr w2 : World} {B : Nat} {p : Pk} {l : List Pt} {v5 v6 v7 v' : Value} {pt : Pt} {xs cs : List Value}
theorem filt_in (f : Pt → Bool) (h : f pt = true) : (l ++ [pt]).filter f = l.filter f ++ [pt] := by simp [List.filter_append, h]
theorem filt_out (f : Pt → Bool) (h : f pt = false) : (l ++ [pt]).filter f = l.filter f := by simp [List.filter_append, h]
theorem Three.behind (h : Three w wr B p l v5 v6 v7) (hb : behindB p pt = true) (hr : RowOf 2 (PtT w) xs (l.filter (behindB p))) (ho : w2.ownsRow B 128 2 v' ((l.filter (behindB p)).length + 1) (xs ++ cs)) (hg : wr.grownBy w2 v7.ownBlock) (hat : v'.ownBlock = v7.ownBlock ∨ v'.ownBlock = some wr.heap.size) (hp : PtT w cs pt) : Three w w2 B p (l ++ [pt]) v5 v6 v' := by
  have h1 : aheadB p pt = false := by unfold aheadB; rw [hb]; rfl
  have h2 : touchB p pt = false := by unfold touchB; rw [hb]; rfl
  refine ⟨?_, ?_, ?_, h.at_, apart_new h.ab h.a hat, apart_new h.tb h.t hat⟩
  · rw [filt_out _ h1]; exact h.a.kept hg h.ab
  · rw [filt_out _ h2]; exact h.t.kept hg h.tb
  · rw [filt_in _ hb]; exact .add ho hr hp
theorem Three.ahead (h : Three w wr B p l v5 v6 v7) (hb : behindB p pt = false) (ha : aheadB p pt = true) (hr : RowOf 2 (PtT w) xs (l.filter (aheadB p))) (ho : w2.ownsRow B 128 2 v' ((l.filter (aheadB p)).length + 1) (xs ++ cs)) (hg : wr.grownBy w2 v5.ownBlock) (hat : v'.ownBlock = v5.ownBlock ∨ v'.ownBlock = some wr.heap.size) (hp : PtT w cs pt) : Three w w2 B p (l ++ [pt]) v' v6 v7 := by
  have h2 : touchB p pt = false := by
    unfold aheadB at ha
    unfold touchB
    rw [hb] at ha ⊢
    simp at ha ⊢
    exact ha
  refine ⟨?_, ?_, ?_, (apart_new h.at_.symm h.t hat).symm, (apart_new h.ab.symm h.b hat).symm, h.tb⟩
  · rw [filt_in _ ha]; exact .add ho hr hp
  · rw [filt_out _ h2]; exact h.t.kept hg h.at_.symm
  · rw [filt_out _ hb]; exact h.b.kept hg h.ab.symm
theorem Three.touch (h : Three w wr B p l v5 v6 v7) (hb : behindB p pt = false) (ha : touchB p pt = true) (hr : RowOf 2 (PtT w) xs (l.filter (touchB p))) (ho : w2.ownsRow B 128 2 v' ((l.filter (touchB p)).length + 1) (xs ++ cs)) (hg : wr.grownBy w2 v6.ownBlock) (hat : v'.ownBlock = v6.ownBlock ∨ v'.ownBlock = some wr.heap.size) (hp : PtT w cs pt) : Three w w2 B p (l ++ [pt]) v5 v' v7 := by
  have h2 : aheadB p pt = false := by
    unfold touchB at ha
    unfold aheadB
    rw [hb] at ha ⊢
    simp at ha ⊢
    exact ha
  refine ⟨?_, ?_, ?_, apart_new h.at_ h.a hat, h.ab, (apart_new h.tb.symm h.b hat).symm⟩
  · rw [filt_out _ h2]; exact h.a.kept hg h.at_
  · rw [filt_in _ ha]; exact .add ho hr hp
  · rw [filt_out _ hb]; exact h.b.kept hg h.tb.symm
end
theorem from_in (p : Pk) (l : List Pt) (pt : Pt) (h : touchB p pt = true) : fromP p (l ++ [pt]) = min (fromP p l) pt.off := by
  unfold fromP
  rw [filt_in _ h, List.foldl_append]
  rfl
theorem from_out (p : Pk) (l : List Pt) (pt : Pt) (h : touchB p pt = false) : fromP p (l ++ [pt]) = fromP p l := by
  unfold fromP
  rw [filt_out _ h]
theorem to_in (p : Pk) (l : List Pt) (pt : Pt) (h : touchB p pt = true) : toP p (l ++ [pt]) = max (toP p l) pt.fin := by
  unfold toP
  rw [filt_in _ h, List.foldl_append]
  rfl
theorem to_out (p : Pk) (l : List Pt) (pt : Pt) (h : touchB p pt = false) : toP p (l ++ [pt]) = toP p l := by
  unfold toP
  rw [filt_out _ h]
theorem touch_of_ahead {p : Pk} {pt : Pt} (hb : behindB p pt = false) (h : aheadB p pt = true) : touchB p pt = false := by
  unfold aheadB at h
  unfold touchB
  rw [hb] at h ⊢
  simp at h ⊢
  exact h
theorem touch_of_behind {p : Pk} {pt : Pt} (hb : behindB p pt = true) : touchB p pt = false := by unfold touchB; rw [hb]; rfl
theorem over_length (l : List UInt8) (k : Nat) (x : List UInt8) (h : k + x.length ≤ l.length) : (over l k x).length = l.length := by
  unfold over
  rw [List.length_append, List.length_append, List.length_take, List.length_drop]
  omega
end Go.Proofs.Ytjgdmkmfnkaoaaa.F
