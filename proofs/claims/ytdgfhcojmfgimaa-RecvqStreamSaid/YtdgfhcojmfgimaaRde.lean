/-
  slices.Grow(nil, n) and slices.Concat of slices of pieces: a new row with the pieces, one slice's behind the other's. Every list of slices that read as pieces. No condition.
-/
import Derived.Test.YtdgfhcojmfgimaaRdn
import Derived.Lib.AppendZeros
namespace Go.Proofs.Ytdgfhcojmfgimaa
open Go.RowKit

theorem growp_zero (w : World) :
    Calls Try.prog 41 #[.slice none 0 0, .int .i64 0] w fun e w' => e = .returned (.slice none 0 0) ∧ w = w' := by
  go_enter Try.func41, Try.ntmps41
  go_wp2
  go_ret
  exact ⟨rfl, rfl⟩

set_option maxHeartbeats 400000 in
theorem growp_some (n : Nat) (w : World) (h0 : 0 < n) (hn : n ≤ 1000000) :
    Calls Try.prog 41 #[.slice none 0 0, .int .i64 n] w fun e w' => ∃ c, e = .returned (.slice (some ⟨w.heap.size, 0, none⟩) 0 c) ∧ w'.ownsRow w.heap.size 55 2 (.slice (some ⟨w.heap.size, 0, none⟩) 0 c) 0 [] ∧ Below w.heap.size w w' := by
  obtain ⟨i0, hi, hz0, hz1, hz2⟩ := pc_parts
  have hrz : ∀ ty, (Builtin.append_ #[27, 3] ty #[.slice none 0 0, .int .i64 (n : Int)]).run Try.prog w = _ := fun ty =>
    Lib.run_append_nil_zeros w 27 3 ty 55 i0 (.agg #[.int .u32 0, .slice none 0 0]) .i64 .i64 Try.underlying27 Try.underlying3 hi hz0 n h0 (by omega) (by omega) (by rw [hz2]; omega)
  have hGn : n ≤ grownCap w n 0 55 := grownCap_ge w _ _ _
  have hGm := grownCap_le_maxLen w n 0 55 (by unfold maxLen; omega)
  obtain ⟨G, hG⟩ : ∃ G, G = grownCap w n 0 55 := ⟨_, rfl⟩
  rw [← hG] at hrz hGn hGm
  have HM := Lib.hid hGm
  have hG63 : G ≤ 9223372036854775807 := by unfold maxLen at hGm; omega
  clear hG hGm
  have hown : (w.drew.alloc (.cells (Builtin.zeroCells (Value.agg #[.int .u32 0, .slice none 0 0]).cells n ++ Builtin.zeroCells (Value.agg #[.int .u32 0, .slice none 0 0]).cells (G - n)) 55)).ownsRow w.heap.size 55 2 (.slice (some ⟨w.heap.size, 0, none⟩) 0 G) 0 [] := by
    refine World.ownsRow_made (base := w.heap.size) (size := 2) w.drew _ G (Nat.le_refl _) HM.out ?_
    simp [Builtin.zeroCells, Value.cells]
    omega
  have HO := Lib.hid hown
  have HB : Hid (Below w.heap.size w (w.drew.alloc (.cells (Builtin.zeroCells (Value.agg #[.int .u32 0, .slice none 0 0]).cells n ++ Builtin.zeroCells (Value.agg #[.int .u32 0, .slice none 0 0]).cells (G - n)) 55))) := ((Below.refl _ _).drew).alloc (Nat.le_refl _) _
  clear hown
  generalize w.drew.alloc (.cells (Builtin.zeroCells (Value.agg #[.int .u32 0, .slice none 0 0]).cells n ++ Builtin.zeroCells (Value.agg #[.int .u32 0, .slice none 0 0]).cells (G - n)) 55) = w1 at hrz HO HB
  go_enter Try.func41, Try.ntmps41
  go_wp2_with (at_builtin; refine Lib.wpList_append_run _ rfl _ _ _ _ rfl _ _ rfl rfl _ _ (hrz _) ?_)
  go_ret
  exact ⟨G, rfl, HO.out, HB.out⟩

theorem growp_any (n : Nat) (w : World) (hn : n ≤ 1000000) :
    Calls Try.prog 41 #[.slice none 0 0, .int .i64 n] w fun e w' => ∃ v, e = .returned v ∧ w'.ownsRow w.heap.size 55 2 v 0 [] ∧ Below w.heap.size w w' := by
  rcases Nat.eq_zero_or_pos n with rfl | h0
  · refine (growp_zero w).mono ?_
    rintro e w' ⟨rfl, rfl⟩
    exact ⟨_, rfl, World.ownsRow_nil _ _ _ _, Below.refl _ _⟩
  · refine (growp_some n w h0 hn).mono ?_
    rintro e w' ⟨c, rfl, h1, h2⟩
    exact ⟨_, rfl, h1, h2⟩

/-- slices of pieces, each with its pieces -/
def Slices (lo : Nat) (w : World) (vs : List Value) (pss : List (List Pc)) : Prop := vs.length = pss.length ∧ ∀ (i : Nat) (ps : List Pc), pss[i]? = some ps → ∃ v, vs[i]? = some v ∧ PcsT lo w v ps
theorem flatp_take {pss : List (List Pc)} {k : Nat} (hk : k < pss.length) : (pss.take (k + 1)).flatten = (pss.take k).flatten ++ pss[k] := by
  rw [List.take_succ_eq_append_getElem hk]
  simp only [List.flatten_append, List.flatten_cons, List.flatten_nil, List.append_nil]
theorem flatp_le (pss : List (List Pc)) (k : Nat) : (pss.take k).flatten.length ≤ pss.flatten.length := by
  have h : pss.flatten = (pss.take k).flatten ++ (pss.drop k).flatten := by rw [← List.flatten_append, List.take_append_drop]
  rw [h, List.length_append]
  omega

set_option maxHeartbeats 1000000 in
theorem concatp_any (lo : Nat) (ad : Addr) (c : Nat) (vs : List Value) (pss : List (List Pc)) (w : World) (h : Rd w 0 w.heap.size (some ad) vs) (hb : Slices lo w vs pss) (hl : pss.flatten.length ≤ 100000) (hps : pss.length ≤ 1000) :
    Calls Try.prog 38 #[.slice (some ad) pss.length c] w fun e w' => ∃ v xs, e = .returned v ∧ w'.ownsRow w.heap.size 55 2 v pss.flatten.length xs ∧ RowOf 2 (PcT lo w') xs pss.flatten ∧ Below w.heap.size w w' := by
  obtain ⟨i0, hi0, hz0, hz1, hz2⟩ := pc_parts
  have HP := Lib.hid hb
  clear hb
  go_enter Try.func38, Try.ntmps38
  go_wp2
  go_loop [3, 11] (fun t i => ∃ k n : Nat, k ≤ pss.length ∧ i = .int .i64 k ∧ t = .int .i64 n ∧ Hid (n = (pss.take k).flatten.length)) (fun _ i => pss.length - (intOf i).toNat)
  case atStart => exact ⟨0, 0, Nat.zero_le _, rfl, rfl, rfl⟩
  case round =>
    obtain ⟨k, n, hk, rfl, rfl, HN⟩ := hrel
    have hnl : n ≤ 100000 := by have := HN.out; have := flatp_le pss k; omega
    by_cases hks : k < pss.length
    · obtain ⟨v, hv, A, c1, xs1, rfl, _⟩ := HP.out.2 k pss[k] (List.getElem?_eq_getElem hks)
      have hcell : w.cell? (ad.add k) = some (.slice A pss[k].length c1) := by
        obtain ⟨ad', e, _, _, hc⟩ := h k _ hv
        cases e
        exact hc
      have hft := congrArg List.length (flatp_take hks)
      rw [List.length_append] at hft
      obtain ⟨m, hm⟩ : ∃ m, pss[k].length = m := ⟨_, rfl⟩
      rw [hm] at hft hcell
      have hnm : n + m ≤ 100000 := by have := HN.out; have := flatp_le pss (k + 1); omega
      have HT : Hid (n + m = (pss.take (k + 1)).flatten.length) := by show _ = _; rw [hft, HN.out]
      clear hft hm hv
      go_wp2
      go_round
      case rel => exact ⟨k + 1, n + m, by omega, by go_num, by go_num, HT.out⟩
      case measure => simp [intOf]; omega
    · obtain rfl : k = pss.length := by omega
      have HNN : Hid (n = pss.flatten.length) := by have := HN.out; rw [List.take_length] at this; exact this
      clear HN
      go_wp2_with fail
      refine (growp_any n _ (by omega)).mono ?_
      rintro e w1 ⟨v, rfl, hown, hb1⟩
      go_wp2
      go_loopw [6, 27] (fun v i wr => ∃ (k : Nat) (xs : List Value), k ≤ pss.length ∧ i = .int .i64 k ∧ Hid (wr.ownsRow w.heap.size 55 2 v (pss.take k).flatten.length xs) ∧ Hid (RowOf 2 (PcT lo w) xs (pss.take k).flatten) ∧ Below w.heap.size w wr) (fun _ i _ => pss.length - (intOf i).toNat)
      case atStart => exact ⟨0, [], Nat.zero_le _, rfl, hown, Lib.hid RowOf.nil, hb1⟩
      case round =>
        obtain ⟨k, xs, hk, rfl, HOW, HRX, hbl⟩ := hrel
        clear hown hb1
        by_cases hks : k < pss.length
        · obtain ⟨v, hv, A, c1, xs1, rfl, htr, hrow, hlc, hcm, hA⟩ := HP.out.2 k pss[k] (List.getElem?_eq_getElem hks)
          have hcell : wr.cell? (ad.add k) = some (.slice A pss[k].length c1) := by
            obtain ⟨ad', e, _, _, hc⟩ := (h.below hbl (Nat.le_refl _)) k _ hv
            cases e
            exact hc
          have HA := Lib.hid hA
          have HRD := Lib.hid (htr.rd.below hbl (Nat.le_refl _))
          have HROW := Lib.hid hrow
          have hft := flatp_take hks
          have hftl := congrArg List.length hft
          rw [List.length_append] at hftl
          have hle := flatp_le pss (k + 1)
          have HF := Lib.hid hft
          have HFL := Lib.hid hftl
          obtain ⟨m, hm⟩ : ∃ m, pss[k].length = m := ⟨_, rfl⟩
          rw [hm] at hcell hftl
          have HM := Lib.hid hm
          obtain ⟨q, hq⟩ : ∃ q, (pss.take k).flatten.length = q := ⟨_, rfl⟩
          rw [hq] at hftl
          have hqm : q + m ≤ 100000 := by omega
          have HQ := Lib.hid hq
          have HL1 : Hid (xs1.length = m * 2) := by show _ = _; rw [hrow.1, hm]
          have H1X : Hid (∀ u ∈ xs1, u.oneCell' = true) := hrow.one_cell (fun _ _ h => h.one) (by decide)
          have HW : Hid (wr.ownsRow w.heap.size 55 2 u6 q xs) := by have := HOW.out; rw [HQ.out] at this; exact this
          have hz3 : (Value.agg #[.int .u32 0, .slice none 0 0]).cells.size = 2 := rfl
          clear hft hftl hle hv htr hrow hlc hcm hA hm hq HOW
          go_wp2_with (at_builtin; refine wpList_append_rdk (P := Try.prog) rfl _ _ 27 rfl w.heap.size 55 i0 _ 2 32 Try.underlying27 hi0 hz0 hz1 hz2 hz3 (by omega) _ q xs rfl HW.out A m c1 xs1 rfl HA.out HL1.out HRD.out H1X.out (by unfold maxLen; omega) (by omega) hbl.size ?_; intro v2 w2 hown2 hgrow2 _)
          have HB2 : Hid (Below w.heap.size w w2) := hbl.grown hgrow2 hbl.size fun g hg => (HW.out.lt g hg).1
          have HO2 : Hid (w2.ownsRow w.heap.size 55 2 v2 (pss.take (k + 1)).flatten.length (xs ++ xs1)) := by
            show w2.ownsRow _ _ _ _ _ _
            rw [HFL.out, HQ.out, HM.out]
            exact hown2
          have HR2 : Hid (RowOf 2 (PcT lo w) (xs ++ xs1) (pss.take (k + 1)).flatten) := by
            show RowOf _ _ _ _
            rw [HF.out]
            exact HRX.out.append HROW.out
          clear hown2 hgrow2
          go_roundw
          case rel => exact ⟨k + 1, xs ++ xs1, by omega, by go_num, HO2, HR2, HB2.out⟩
          case measure => simp [intOf]; omega
        · obtain rfl : k = pss.length := by omega
          rw [List.take_length] at HOW HRX
          have HO := Lib.hid HOW.out
          have HB := Lib.hid hbl
          have HRR : Hid (RowOf 2 (PcT lo wr) xs pss.flatten) := HRX.out.imp fun _ _ _ hp => hp.keeps (Keeps.below hbl (Nat.le_refl _))
          clear HOW hbl
          go_wp2
          go_ret
          exact ⟨_, xs, rfl, HO.out, HRR.out, HB.out⟩
end Go.Proofs.Ytdgfhcojmfgimaa
