/-
  slices.Grow(nil, n) and slices.Concat of byte slices: a new row with the parts' bytes, one behind the other. Every list of parts that can be read, of at most a milliard bytes in all.
-/
import Derived.Test.YtjgdmkmfnkaoaaaMem
import Derived.Lib.AppendZeros
namespace Go.Proofs.Ytjgdmkmfnkaoaaa
open Go.RowKit

theorem info_u8 : (Try.prog.info? 5).map (fun i => (i.zero, i.size, i.bytes)) = some (some (.int .u8 0), 1, 1) := by kernel_rfl

/-- a row of bytes of the call's own, from block B on -/
def OwnB (w : World) (B : Nat) (v : Value) (l : List UInt8) : Prop := w.ownsRow B 5 1 v l.length (cells l)

set_option maxRecDepth 100000 in
theorem grow_zero (w : World) :
    Calls Try.prog 65 #[.slice none 0 0, .int .i64 0] w fun e w' => e = .returned (.slice none 0 0) ∧ w = w' := by
  go_enter Try.func65, Try.ntmps65
  go_wp2
  go_ret
  exact ⟨rfl, rfl⟩

set_option maxHeartbeats 400000 in
set_option maxRecDepth 100000 in
theorem grow_some (n : Nat) (w : World) (h0 : 0 < n) (hn : n ≤ 1000000000) :
    Calls Try.prog 65 #[.slice none 0 0, .int .i64 n] w fun e w' => ∃ c, e = .returned (.slice (some ⟨w.heap.size, 0, none⟩) 0 c) ∧ w'.ownsRow w.heap.size 5 1 (.slice (some ⟨w.heap.size, 0, none⟩) 0 c) 0 [] ∧ Below w.heap.size w w' := by
  obtain ⟨i0, hi, hz0, hz1, hz2⟩ := info_parts info_u8
  have hrz : ∀ ty, (Builtin.append_ #[24, 3] ty #[.slice none 0 0, .int .i64 (n : Int)]).run Try.prog w = _ := fun ty =>
    Lib.run_append_nil_zeros w 24 3 ty 5 i0 (.int .u8 0) .i64 .i64 Try.underlying24 Try.underlying3 hi hz0 n h0 (by omega) (by omega) (by rw [hz2]; omega)
  have hGn : n ≤ grownCap w n 0 5 := grownCap_ge w _ _ _
  have hGm := grownCap_le_maxLen w n 0 5 (by unfold maxLen; omega)
  obtain ⟨G, hG⟩ : ∃ G, G = grownCap w n 0 5 := ⟨_, rfl⟩
  rw [← hG] at hrz hGn hGm
  have HM := Lib.hid hGm
  have hG63 : G ≤ 9223372036854775807 := by unfold maxLen at hGm; omega
  clear hG hGm
  have hown : (w.drew.alloc (.cells (Builtin.zeroCells (Value.int .u8 0).cells n ++ Builtin.zeroCells (Value.int .u8 0).cells (G - n)) 5)).ownsRow w.heap.size 5 1 (.slice (some ⟨w.heap.size, 0, none⟩) 0 G) 0 [] := by
    refine World.ownsRow_made (base := w.heap.size) (size := 1) w.drew _ G (Nat.le_refl _) HM.out ?_
    simp [Builtin.zeroCells, Value.cells]
    omega
  have HO := Lib.hid hown
  have HB : Hid (Below w.heap.size w (w.drew.alloc (.cells (Builtin.zeroCells (Value.int .u8 0).cells n ++ Builtin.zeroCells (Value.int .u8 0).cells (G - n)) 5))) := ((Below.refl _ _).drew).alloc (Nat.le_refl _) _
  clear hown
  generalize w.drew.alloc (.cells (Builtin.zeroCells (Value.int .u8 0).cells n ++ Builtin.zeroCells (Value.int .u8 0).cells (G - n)) 5) = w1 at hrz HO HB
  go_enter Try.func65, Try.ntmps65
  go_wp2_with (at_builtin; refine Lib.wpList_append_run _ rfl _ _ _ _ rfl _ _ rfl rfl _ _ (hrz _) ?_)
  go_ret
  exact ⟨G, rfl, HO.out, HB.out⟩

theorem grow_any (n : Nat) (w : World) (hn : n ≤ 1000000000) :
    Calls Try.prog 65 #[.slice none 0 0, .int .i64 n] w fun e w' => ∃ v, e = .returned v ∧ w'.ownsRow w.heap.size 5 1 v 0 [] ∧ Below w.heap.size w w' := by
  rcases Nat.eq_zero_or_pos n with rfl | h0
  · refine (grow_zero w).mono ?_
    rintro e w' ⟨rfl, rfl⟩
    exact ⟨_, rfl, World.ownsRow_nil _ _ _ _, Below.refl _ _⟩
  · refine (grow_some n w h0 hn).mono ?_
    rintro e w' ⟨c, rfl, h1, h2⟩
    exact ⟨_, rfl, h1, h2⟩

/-- slices of bytes, each with its bytes -/
def Bits (w : World) (lo hi : Nat) (vs : List Value) (ps : List (List UInt8)) : Prop :=
  vs.length = ps.length ∧ ∀ (i : Nat) (p : List UInt8), ps[i]? = some p → ∃ A c, vs[i]? = some (.slice A p.length c) ∧ Rd w lo hi A (cells p) ∧ (A = none → c = 0)
theorem Bits.nil {w : World} {lo hi : Nat} : Bits w lo hi [] [] := ⟨rfl, by simp⟩
theorem Bits.cons {w : World} {lo hi : Nat} {vs : List Value} {ps : List (List UInt8)} {A : Option Addr} {c : Nat} {p : List UInt8} (h : Rd w lo hi A (cells p)) (hA : A = none → c = 0) (h2 : Bits w lo hi vs ps) :
    Bits w lo hi (.slice A p.length c :: vs) (p :: ps) := by
  refine ⟨by simp [h2.1], fun i q hq => ?_⟩
  cases i with
  | zero => simp at hq; subst hq; exact ⟨A, c, rfl, h, hA⟩
  | succ i => simp at hq; simpa using h2.2 i q hq

theorem Bits.alloc {w : World} {lo hi : Nat} {vs : List Value} {ps : List (List UInt8)} (h : Bits w lo hi vs ps) (hB : hi ≤ w.heap.size) (o : Obj) : Bits (w.alloc o) lo hi vs ps :=
  ⟨h.1, fun i p hp => by
    obtain ⟨A, c, h1, h2, h3⟩ := h.2 i p hp
    exact ⟨A, c, h1, h2.alloc hB o, h3⟩⟩
theorem flat_take {ps : List (List UInt8)} {k : Nat} (hk : k < ps.length) : (ps.take (k + 1)).flatten = (ps.take k).flatten ++ ps[k] := by
  rw [List.take_succ_eq_append_getElem hk]
  simp only [List.flatten_append, List.flatten_cons, List.flatten_nil, List.append_nil]
theorem flat_le (ps : List (List UInt8)) (k : Nat) : (ps.take k).flatten.length ≤ ps.flatten.length := by
  have h : ps.flatten = (ps.take k).flatten ++ (ps.drop k).flatten := by rw [← List.flatten_append, List.take_append_drop]
  rw [h, List.length_append]
  omega

set_option maxHeartbeats 1000000 in
set_option maxRecDepth 100000 in
theorem concat_any (ad : Addr) (c lo hi lo2 hi2 : Nat) (vs : List Value) (ps : List (List UInt8)) (w : World) (h : Rd w lo hi (some ad) vs) (hb : Bits w lo2 hi2 vs ps) (hhi : hi ≤ w.heap.size) (hhi2 : hi2 ≤ w.heap.size)
    (hl : ps.flatten.length ≤ 1000000000) (hps : ps.length ≤ 1000) :
    Calls Try.prog 28 #[.slice (some ad) ps.length c] w fun e w' => ∃ A c', e = .returned (.slice A ps.flatten.length c') ∧ OwnB w' w.heap.size (.slice A ps.flatten.length c') ps.flatten ∧ Below w.heap.size w w' := by
  obtain ⟨i0, hi0, hz0, hz1, hz2⟩ := info_parts info_u8
  have HP := Lib.hid hb
  clear hb
  go_enter Try.func28, Try.ntmps28
  go_wp2
  go_loop [3, 11] (fun t i => ∃ k n : Nat, k ≤ ps.length ∧ i = .int .i64 k ∧ t = .int .i64 n ∧ Hid (n = (ps.take k).flatten.length)) (fun _ i => ps.length - (intOf i).toNat)
  case atStart => exact ⟨0, 0, Nat.zero_le _, rfl, rfl, rfl⟩
  case round =>
    obtain ⟨k, n, hk, rfl, rfl, HN⟩ := hrel
    have hnl : n ≤ 1000000000 := by have := HN.out; have := flat_le ps k; omega
    by_cases hks : k < ps.length
    · obtain ⟨A, c1, hv, _, _⟩ := HP.out.2 k ps[k] (List.getElem?_eq_getElem hks)
      have hcell : w.cell? (ad.add k) = some (.slice A ps[k].length c1) := by
        obtain ⟨ad', e, _, _, hc⟩ := h k _ hv
        cases e
        exact hc
      have hft := congrArg List.length (flat_take hks)
      rw [List.length_append] at hft
      obtain ⟨m, hm⟩ : ∃ m, ps[k].length = m := ⟨_, rfl⟩
      rw [hm] at hft hcell
      have hnm : n + m ≤ 1000000000 := by have := HN.out; have := flat_le ps (k + 1); omega
      have HT : Hid (n + m = (ps.take (k + 1)).flatten.length) := by show _ = _; rw [hft, HN.out]
      clear hft hm hv
      go_wp2
      go_round
      case rel => exact ⟨k + 1, n + m, by omega, by go_num, by go_num, HT.out⟩
      case measure => simp [intOf]; omega
    · obtain rfl : k = ps.length := by omega
      have HNN : Hid (n = ps.flatten.length) := by have := HN.out; rw [List.take_length] at this; exact this
      clear HN
      go_wp2_with fail
      refine (grow_any n _ hnl).mono ?_
      rintro e w1 ⟨v, rfl, hown, hb1⟩
      go_wp2
      go_loopw [6, 27] (fun v i wr => ∃ k : Nat, k ≤ ps.length ∧ i = .int .i64 k ∧ OwnB wr w.heap.size v (ps.take k).flatten ∧ Below w.heap.size w wr) (fun _ i _ => ps.length - (intOf i).toNat)
      case atStart => exact ⟨0, Nat.zero_le _, rfl, hown, hb1⟩
      case round =>
        obtain ⟨k, hk, rfl, HOW, hbl⟩ := hrel
        clear hown hb1
        by_cases hks : k < ps.length
        · obtain ⟨A, c1, hv, hrd, hA⟩ := HP.out.2 k ps[k] (List.getElem?_eq_getElem hks)
          have hcell : wr.cell? (ad.add k) = some (.slice A ps[k].length c1) := by
            obtain ⟨ad', e, _, _, hc⟩ := (h.below hbl hhi) k _ hv
            cases e
            exact hc
          have HA := Lib.hid hA
          have HRD := Lib.hid (hrd.below hbl hhi2)
          have hft := flat_take hks
          have hftl := congrArg List.length hft
          rw [List.length_append] at hftl
          have hle := flat_le ps (k + 1)
          have HF := Lib.hid hft
          have HFL := Lib.hid hftl
          obtain ⟨m, hm⟩ : ∃ m, ps[k].length = m := ⟨_, rfl⟩
          rw [hm] at hcell hftl
          have HM := Lib.hid hm
          obtain ⟨q, hq⟩ : ∃ q, (ps.take k).flatten.length = q := ⟨_, rfl⟩
          rw [hq] at hftl
          have hqm : q + m ≤ 1000000000 := by omega
          have HQ := Lib.hid hq
          clear hft hftl hle hv hrd hA hm hq
          have hown : wr.ownsRow w.heap.size 5 1 u6 q (cells (ps.take k).flatten) := by have := HOW; unfold OwnB at this; rw [HQ.out] at this; exact this
          have HW := Lib.hid hown
          clear HOW hown
          go_wp2_with (at_builtin; refine wpList_append_rd rfl _ _ 24 rfl w.heap.size 5 i0 (.int .u8 0) 1 Try.underlying24 hi0 hz0 hz1 hz2 rfl _ _ _ rfl HW.out A m c1 (cells ps[k]) rfl HA.out (by rw [cells_length]; exact HM.out) HRD.out (cells_one _) (by unfold maxLen; omega) (by omega) hbl.size ?_; intro v2 w2 hown2 hgrow2)
          have HB2 : Hid (Below w.heap.size w w2) := hbl.grown hgrow2 hbl.size fun g hg => (HW.out.lt g hg).1
          have HO2 : Hid (OwnB w2 w.heap.size v2 (ps.take (k + 1)).flatten) := by
            show w2.ownsRow _ _ _ _ _ _
            rw [HFL.out, HQ.out, HM.out, HF.out, cells_append]
            exact hown2
          clear hown2 hgrow2
          go_roundw
          case rel => exact ⟨k + 1, by omega, by go_num, HO2.out, HB2.out⟩
          case measure => simp [intOf]; omega
        · obtain rfl : k = ps.length := by omega
          rw [List.take_length] at HOW
          obtain ⟨A, c', hv⟩ := own_form HOW
          have HO := Lib.hid HOW
          have HB := Lib.hid hbl
          clear HOW hbl
          subst hv
          go_wp2
          go_ret
          exact ⟨A, c', rfl, HO.out, HB.out⟩
end Go.Proofs.Ytjgdmkmfnkaoaaa
