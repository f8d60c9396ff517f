/-
  addr.number(s, most): the number of a text in digits without a needless 0, if it is not above most. Every text of at most a milliard bytes.
-/
import Derived.Test.YtbahkilfcfbolaaDoorUnhex
import Derived.Test.YtbahkilfcfbolaaDoorText
import Derived.Test.YtbahkilfcfbolaaDoorRef
namespace Go.Proofs.YtbahkilfcfbolaaDoor
open Go.RowKit

/-- behind k digits: all of them are, none is needless, their number is n -/
def NuSt (l : List UInt8) (most : Nat) (w : World) (k n : Nat) (wr : World) : Prop :=
  k ≤ l.length ∧ wr.heap[w.heap.size]? = some (.stringIter ⟨l.toArray⟩ k) ∧ n = vf 0 (l.take k) ∧ n ≤ most ∧ (∀ j (hj : j < l.length), j < k → isD l[j] = true) ∧ Below w.heap.size w wr

theorem vf_take_le (l : List UInt8) (k : Nat) : vf 0 (l.take k) ≤ vf 0 l := by
  conv => rhs; rw [← List.take_append_drop k l]
  unfold vf
  rw [List.foldl_append]
  exact vf_le _ _
theorem vf_take_succ (l : List UInt8) (k : Nat) (hk : k < l.length) : vf 0 (l.take (k + 1)) = 10 * vf 0 (l.take k) + (l[k].toNat - 48) := by
  rw [List.take_succ_eq_append_getElem hk, vf_snoc]
theorem numS_bad (l : List UInt8) (most k : Nat) (hk : k < l.length) (h : isD l[k] = false) : numS l most = (0, false) := by
  unfold numS
  rw [if_neg]
  rintro ⟨h1, _⟩
  unfold canon at h1
  rw [Bool.and_eq_true, List.all_eq_true] at h1
  have := h1.2 l[k] (List.getElem_mem hk)
  rw [h] at this
  cases this
theorem numS_above (l : List UInt8) (most k : Nat) (h : most < vf 0 (l.take k)) : numS l most = (0, false) := by
  unfold numS
  rw [if_neg]
  rintro ⟨_, h1⟩
  have := vf_take_le l k
  omega
theorem numS_good (l : List UInt8) (most : Nat) (h0 : l ≠ []) (hz : ¬ (1 < l.length ∧ l.head? = some 48)) (h : ∀ j (hj : j < l.length), isD l[j] = true) (hm : vf 0 l ≤ most) : numS l most = (vf 0 l, true) := by
  unfold numS
  rw [if_pos]
  refine ⟨?_, hm⟩
  unfold canon
  rw [Bool.and_eq_true, Bool.and_eq_true, List.all_eq_true]
  refine ⟨⟨decide_eq_true h0, ?_⟩, fun c hc => ?_⟩
  · rw [Bool.not_eq_true', Bool.and_eq_false_iff]
    by_cases h1 : 1 < l.length
    · exact .inr (by simpa using fun e => hz ⟨h1, e⟩)
    · exact .inl (by simpa using h1)
  · obtain ⟨j, hj, rfl⟩ := List.getElem_of_mem hc
    exact h j hj

theorem nust_step {l : List UInt8} {most : Nat} {w wr : World} {k n : Nat} (h : NuSt l most w k n wr) (hk : k < l.length) (hd : isD l[k] = true) (hm : 10 * n + (l[k].toNat - 48) ≤ most) :
    NuSt l most w (k + 1) (10 * n + (l[k].toNat - 48)) (wr.iterAt w.heap.size ⟨l.toArray⟩ (k + 1)) := by
  obtain ⟨_, h2, h3, _, h5, h6⟩ := h
  refine ⟨by omega, Lib.iterAt_heap _ _ _ _ _ h2, by rw [vf_take_succ l k hk, h3], hm, ?_, Lib.below_iterAt h6 (Nat.le_refl _) _ _⟩
  intro j hj hjk
  rcases Nat.lt_or_ge j k with h | h
  · exact h5 j hj h
  · obtain rfl : j = k := by omega
    exact hd

theorem number_empty (most : Nat) (w : World) :
    Calls Tryd.prog 26 #[txt [], .int .i64 most] w fun e w' => e = .returned (.tuple #[.int .i64 (numS [] most).1, .bool (numS [] most).2]) ∧ Below w.heap.size w w' := by
  go_enter Tryd.func26, Tryd.ntmps26
  go_wp2
  go_ret2
  exact ⟨rfl, Below.refl _ _⟩

theorem number_zero (x : UInt8) (l : List UInt8) (most : Nat) (w : World) (h1 : 1 ≤ l.length) (hx : x = 48) :
    Calls Tryd.prog 26 #[txt (x :: l), .int .i64 most] w fun e w' => e = .returned (.tuple #[.int .i64 0, .bool false]) ∧ Below w.heap.size w w' := by
  have hne : ((⟨(x :: l).toArray⟩ : ByteArray).toList == (⟨#[]⟩ : ByteArray).toList) = false := by
    rw [Lib.toList_data, Lib.toList_data]
    rfl
  have hix : ∀ hh, ((⟨(x :: l).toArray⟩ : ByteArray)[0]'hh).toNat = 48 := fun _ => by show x.toNat = 48; rw [hx]; rfl
  have hsz : (⟨(x :: l).toArray⟩ : ByteArray).size = (x :: l).length := by simp [ByteArray.size]
  have hl2 : 2 ≤ (x :: l).length := by simp; omega
  go_enter Tryd.func26, Tryd.ntmps26
  go_wp2
  go_ret2
  exact ⟨rfl, Below.refl _ _⟩

set_option maxRecDepth 100000 in
set_option maxHeartbeats 1000000 in
theorem number_loop (l : List UInt8) (most : Nat) (w : World) (hl : l.length ≤ 1000000000) (h0 : l ≠ []) (hm : most ≤ 1000000) (h1 : l.length = 1 ∨ (2 ≤ l.length ∧ ∃ x0 : Nat, ((x0 : Int) == 48) = false ∧ ∀ hh, ((⟨l.toArray⟩ : ByteArray)[0]'hh).toNat = x0)) :
    Calls Tryd.prog 26 #[txt l, .int .i64 most] w fun e w' => e = .returned (.tuple #[.int .i64 (numS l most).1, .bool (numS l most).2]) ∧ Below w.heap.size w w' := by
  have hne : ((⟨l.toArray⟩ : ByteArray).toList == (⟨#[]⟩ : ByteArray).toList) = false := by
    rw [Lib.toList_data, Lib.toList_data, beq_eq_false_iff_ne]
    simpa using h0
  have hZ : Hid (¬ (1 < l.length ∧ l.head? = some 48)) := by
    show ¬ _
    rintro ⟨h2, h3⟩
    rcases h1 with h1 | ⟨_, x0, h1, h4⟩
    · omega
    · rcases l with _ | ⟨x, r⟩
      · exact h0 rfl
      · simp only [List.head?_cons, Option.some.injEq] at h3
        subst h3
        obtain rfl : x0 = 48 := (h4 (by simp [ByteArray.size])).symm.trans rfl
        exact absurd h1 (by decide)
  have H0 := Lib.hid h0
  have hE : l.isEmpty = false := by simpa using h0
  have h0 : ¬ l = [] := h0
  rcases h1 with h1 | ⟨h1, x0, hx0, h2⟩
  all_goals
    go_enter Tryd.func26, Tryd.ntmps26
    go_wp2
    go_loopw [6] (fun v wr => ∃ k n : Nat, v = .int .i64 n ∧ NuSt l most w k n wr) (fun _ wr => l.length - wr.iterPos w.heap.size)
    case atStart => exact ⟨0, 0, rfl, Nat.zero_le _, heap_alloc_new w _, rfl, Nat.zero_le _, by omega, (Below.refl _ _).alloc (Nat.le_refl _) _⟩
    case round =>
      obtain ⟨k, n, rfl, hst⟩ := hrel
      have hk := hst.1
      have hit := hst.2.1
      have hmeas := iterPos_of hit
      by_cases hks : k < l.length
      · obtain ⟨x, hx⟩ : ∃ x, l[k].toNat = x := ⟨_, rfl⟩
        by_cases hdx : isD l[k] = true
        · have hd2 := of_decide_eq_true hdx
          rw [hx] at hd2
          obtain ⟨h48, h57⟩ := hd2
          have hnx : ∀ ty, (Instr.next (.pointer (some ⟨w.heap.size, 0, none⟩)) true ty).run Tryd.prog wr = .ok (.tuple #[.bool true, .int .i64 k, .int .i32 x]) (wr.iterAt w.heap.size ⟨l.toArray⟩ (k + 1)) := by
            intro ty
            rw [← hx]
            exact Lib.run_next_ascii_at wr w.heap.size ⟨l.toArray⟩ k ty hit hks (by show l[k].toNat < 128; omega)
          have hnm := hst.2.2.2.1
          have HX := Lib.hid hx
          have HM := Lib.hid hmeas
          have HST := Lib.hid hst
          have HDX := Lib.hid hdx
          clear hx hmeas hit hst hdx
          obtain ⟨m, hmm⟩ : ∃ m : Nat, 10 * n + (x - 48) = m := ⟨_, rfl⟩
          have HMM := Lib.hid hmm
          have HV : Hid (Value.int .i64 (10 * (n : Int) + ((x : Int) - 48)) = .int .i64 (m : Int)) := by
            show _ = _
            congr 1
            omega
          by_cases hmo : m ≤ most
          · have HS2 := Lib.hid (nust_step HST.out hks HDX.out (by rw [HX.out, HMM.out]; exact hmo))
            have HP2 := Lib.hid (iterPos_of HS2.out.2.1)
            go_wp2
            go_roundw
            case rel => exact ⟨k + 1, m, HV.out, by have := HS2.out; rw [HX.out, HMM.out] at this; exact this⟩
            case measure => rw [HP2.out, HM.out]; omega
          · have HB := Lib.hid (numS_above l most (k + 1) (by rw [vf_take_succ l k hks, ← HST.out.2.2.1, HX.out, HMM.out]; omega))
            have HBW := Lib.hid (Lib.below_iterAt HST.out.2.2.2.2.2 (Nat.le_refl _) ⟨l.toArray⟩ (k + 1))
            go_wp2
            go_ret2
            rw [HB.out]
            exact ⟨rfl, HBW.out⟩
        · have hdf : isD l[k] = false := by simpa using hdx
          have HP := Lib.hid (numS_bad l most k hks hdf)
          obtain ⟨r, p', hnx, hr⟩ : ∃ (r p' : Nat), (∀ ty, (Instr.next (.pointer (some ⟨w.heap.size, 0, none⟩)) true ty).run Tryd.prog wr = .ok (.tuple #[.bool true, .int .i64 k, .int .i32 r]) (wr.iterAt w.heap.size ⟨l.toArray⟩ p')) ∧ (r < 48 ∨ 57 < r) := by
            have hdn := of_decide_eq_false hdf
            rw [hx] at hdn
            by_cases hasc : x < 128
            · refine ⟨x, k + 1, fun ty => ?_, by omega⟩
              rw [← hx]
              exact Lib.run_next_ascii_at wr w.heap.size ⟨l.toArray⟩ k ty hit hks (by show l[k].toNat < 128; omega)
            · refine ⟨_, _, fun ty => Lib.run_next_any_at wr w.heap.size ⟨l.toArray⟩ k ty hit hks, ?_⟩
              have h128 := (decide_high' l k hks (by rw [hx]; omega))
              exact .inr (by omega)
          have HB := Lib.hid (Lib.below_iterAt hst.2.2.2.2.2 (Nat.le_refl _) ⟨l.toArray⟩ p')
          clear hx hdx hdf hst hmeas hit
          rcases hr with hr | hr
          all_goals
            go_wp2
            go_ret2
            rw [HP.out]
            exact ⟨rfl, HB.out⟩
      · obtain rfl : k = l.length := by omega
        have hnx : ∀ ty, (Instr.next (.pointer (some ⟨w.heap.size, 0, none⟩)) true ty).run Tryd.prog wr = .ok (.tuple #[.bool false]) wr :=
          fun ty => Lib.run_next_end_at wr w.heap.size ⟨l.toArray⟩ l.length ty hit (by show ¬ l.length < l.length; omega)
        have HST := Lib.hid hst
        clear hit hmeas hst
        go_wp2
        go_ret2
        obtain ⟨_, _, e3, e4, e5, e6⟩ := HST.out
        rw [List.take_length] at e3
        rw [numS_good l most H0.out hZ.out (fun j hj => e5 j hj hj) (by omega), ← e3]
        exact ⟨rfl, e6⟩

/-- addr.number, all of it -/
theorem number_any (l : List UInt8) (most : Nat) (w : World) (hl : l.length ≤ 1000000000) (hm : most ≤ 1000000) :
    Calls Tryd.prog 26 #[txt l, .int .i64 most] w fun e w' => e = .returned (.tuple #[.int .i64 (numS l most).1, .bool (numS l most).2]) ∧ Below w.heap.size w w' := by
  rcases l with _ | ⟨x, r⟩
  · exact number_empty most w
  · by_cases h1 : 1 ≤ r.length ∧ x = 48
    · have e : numS (x :: r) most = (0, false) := by
        unfold numS
        rw [if_neg]
        rintro ⟨h, _⟩
        unfold canon at h
        rw [Bool.and_eq_true, Bool.and_eq_true] at h
        have := h.1.2
        rw [h1.2] at this
        simp at this
        have := h1.1
        simp_all
      rw [e]
      exact number_zero x r most w h1.1 h1.2
    · refine number_loop (x :: r) most w hl (by simp) hm ?_
      by_cases hr : r.length = 0
      · exact .inl (by simp [hr])
      · refine .inr ⟨by simp; omega, x.toNat, ?_, fun _ => rfl⟩
        rw [beq_eq_false_iff_ne]
        exact fun e => h1 ⟨by omega, UInt8.toNat_inj.1 (Int.ofNat.inj e)⟩
end Go.Proofs.YtbahkilfcfbolaaDoor
