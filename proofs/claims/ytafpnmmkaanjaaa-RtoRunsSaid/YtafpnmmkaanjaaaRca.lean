/-
  The code's words of clocks: bounded, apart, New, Double. Every number (apart: two whose difference is a number); Double: right clocks.
-/
import Derived.Test.YtafpnmmkaanjaaaCk
namespace Go.Proofs.Ytafpnmmkaanjaaa
open Go.RowKit

theorem bound_low {n : Int} (h : n ≤ 4) : boundX n = 4 := by
  unfold boundX
  split
  · rfl
  · split <;> omega
theorem bound_high {n : Int} (h : 240 ≤ n) : boundX n = 240 := by
  unfold boundX
  split
  · omega
  · split <;> omega
theorem bound_mid {n : Int} (h : 4 ≤ n) (k : n ≤ 240) : boundX n = n := by
  unfold boundX
  split
  · omega
  · split <;> omega
theorem bounded_any (n : Int) (w : World) : Calls Try.prog 15 #[.int .i64 n] w fun e w' => e = .returned (.int .i64 (boundX n)) ∧ Below w.heap.size w w' := by
  rcases Int.lt_trichotomy n 4 with h | rfl | h
  · rw [bound_low (by omega)]
    go_enter Try.func15, Try.ntmps15
    go_wp2
    go_ret
    exact ⟨rfl, Below.refl _ _⟩
  · rw [bound_low (by omega)]
    go_enter Try.func15, Try.ntmps15
    go_wp2
    go_ret
    exact ⟨rfl, Below.refl _ _⟩
  · rcases Int.lt_trichotomy n 240 with k | rfl | k
    · rw [bound_mid (by omega) (by omega)]
      go_enter Try.func15, Try.ntmps15
      go_wp2
      go_ret
      exact ⟨rfl, Below.refl _ _⟩
    · rw [bound_high (by omega)]
      go_enter Try.func15, Try.ntmps15
      go_wp2
      go_ret
      exact ⟨rfl, Below.refl _ _⟩
    · rw [bound_high (by omega)]
      go_enter Try.func15, Try.ntmps15
      go_wp2
      go_ret
      exact ⟨rfl, Below.refl _ _⟩
theorem codeapart_any (a b : Int) (w : World) (h : I64 (a - b)) (h2 : I64 (b - a)) : Calls Try.prog 16 #[.int .i64 a, .int .i64 b] w fun e w' => e = .returned (.int .i64 (apartX (a - b))) ∧ Below w.heap.size w w' := by
  have e1 : IntKind.i64.wrap (a - b) = a - b := IntWalk.i64_in _ h
  have e2 : IntKind.i64.wrap (b - a) = b - a := IntWalk.i64_in _ h2
  rcases Int.lt_trichotomy a b with k | rfl | k
  · have hx : apartX (a - b) = b - a := by unfold apartX; split <;> omega
    have k1 : a - b < b - a := by omega
    rw [hx]
    clear hx h h2
    go_enter Try.func16, Try.ntmps16
    go_wp2
    go_ret
    exact ⟨rfl, Below.refl _ _⟩
  · have hx : apartX (a - a) = 0 := by rw [Int.sub_self]; rfl
    rw [hx]
    rw [Int.sub_self] at e1
    clear hx h h2 e2
    go_enter Try.func16, Try.ntmps16
    go_wp2
    go_ret
    exact ⟨rfl, Below.refl _ _⟩
  · have hx : apartX (a - b) = a - b := by unfold apartX; split <;> omega
    have k1 : b - a < a - b := by omega
    rw [hx]
    clear hx h h2
    go_enter Try.func16, Try.ntmps16
    go_wp2
    go_ret
    exact ⟨rfl, Below.refl _ _⟩
theorem new_any (w : World) : Calls Try.prog 14 #[] w fun e w' => e = .returned (.agg (ckA newX)) ∧ Below w.heap.size w w' := by
  go_enter Try.func14, Try.ntmps14
  go_wp2
  refine ret_one (g := w.heap.size) rfl rfl (heap_alloc_new w _) Try.underlying23 rfl (by kernel_rfl) rfl ?_
  exact ⟨rfl, (Below.refl _ _).alloc (Nat.le_refl _) _⟩
/-! ### a field of a clock laid anew -/
theorem put0 {w : World} {g : Nat} {t : TypeId} {u0 u1 u2 : Value} (h : w.heap[g]? = some (.cells #[u0, u1, u2] t (0, 0))) (v : Value) : w.setCell ⟨g, 0, none⟩ v = w.setRow g #[v, u1, u2] := by
  rw [setCell_eq_setRow w g 0 _ t (0, 0) v h]
  rfl
theorem put1 {w : World} {g : Nat} {t : TypeId} {u0 u1 u2 : Value} (h : w.heap[g]? = some (.cells #[u0, u1, u2] t (0, 0))) (v : Value) : w.setCell ⟨g, 1, none⟩ v = w.setRow g #[u0, v, u2] := by
  rw [setCell_eq_setRow w g 1 _ t (0, 0) v h]
  rfl
theorem put2 {w : World} {g : Nat} {t : TypeId} {u0 u1 u2 : Value} (h : w.heap[g]? = some (.cells #[u0, u1, u2] t (0, 0))) (v : Value) : w.setCell ⟨g, 2, none⟩ v = w.setRow g #[u0, u1, v] := by
  rw [setCell_eq_setRow w g 2 _ t (0, 0) v h]
  rfl
set_option maxRecDepth 100000 in
set_option maxHeartbeats 4000000 in
theorem dbl_any (c : Ck) (w : World) (h : rightX c = true) : Calls Try.prog 11 #[.agg (ckA c)] w fun e w' => e = .returned (.agg (ckA (dblX c))) ∧ Below w.heap.size w w' := by
  have hr := right_iff.1 h
  obtain ⟨s, d, v⟩ := c
  simp only at hr
  have HM : Hid (ckA (dblX ⟨s, d, v⟩) = #[.int .i64 s, .int .i64 d, .int .i64 (boundX (2 * v))]) := by
    show _ = _
    rw [Int.two_mul]
    rfl
  have hck : ckA ⟨s, d, v⟩ = #[.int .i64 s, .int .i64 d, .int .i64 v] := rfl
  rw [hck, HM.out]
  clear hck h HM
  obtain ⟨w1, hw1⟩ : ∃ w1, (w.alloc (.cells #[.int .i64 s, .int .i64 d, .int .i64 v] 23)).alloc (.cells #[.int .i64 0, .int .i64 0, .int .i64 0] 23) = w1 := ⟨_, rfl⟩
  have HB1 : Hid (Below w.heap.size w w1) := by rw [← hw1]; exact ((Below.refl _ _).alloc (Nat.le_refl _) _).alloc (by simp) _
  have HX0 : Hid (w1.heap[w.heap.size]? = some (.cells #[.int .i64 s, .int .i64 d, .int .i64 v] 23 (0, 0))) := by rw [← hw1]; exact old_alloc (heap_alloc_new w _) _
  have HX1 : Hid (w1.heap[w.heap.size + 1]? = some (.cells #[.int .i64 0, .int .i64 0, .int .i64 0] 23 (0, 0))) := by rw [← hw1]; exact new_at1 w _ _
  have HW := Lib.hid hw1
  clear hw1
  obtain ⟨g, hg⟩ : ∃ g, w.heap.size + 1 = g := ⟨_, rfl⟩
  rw [hg] at HX1
  have HG := Lib.hid hg
  clear hg
  obtain ⟨hv1, hv2, -⟩ := hr
  go_enter Try.func11, Try.ntmps11
  go_upto_region 1 with (fail)
  change Code.wp _ _ _ _ ((w.alloc (.cells #[.int .i64 s, .int .i64 d, .int .i64 v] 23)).alloc (.cells #[.int .i64 0, .int .i64 0, .int .i64 0] 23))
  rw [HW.out, HG.out]
  clear HW
  obtain ⟨a0, a1, a2⟩ := three_cells HX0.out
  go_wp2_with fail
  refine (bounded_any _ _).mono ?_
  rintro e w2 ⟨rfl, hb2⟩
  have HY0 := Lib.hid (old_below HX0.out hb2 (row_lt HX0.out))
  have HY1 := Lib.hid (old_below HX1.out hb2 (row_lt HX1.out))
  have HB2 := Lib.hid (HB1.out.trans (hb2.mono HB1.out.size))
  clear a0 a1 a2 hb2
  obtain ⟨b0, b1, b2⟩ := three_cells HY0.out
  have hfz := frozen_of_row w2 w.heap.size 2 _ _ HY0.out
  go_upto_region 2 with (fail)
  rw [put2 HY0.out]
  have HZ0 := Lib.hid (setRow_heap _ _ _ #[.int .i64 s, .int .i64 d, .int .i64 (boundX (2 * v))] _ _ HY0.out)
  have hne : g ≠ w.heap.size := by have := HG.out; omega
  have HZ1 := Lib.hid ((setRow_other w2 w.heap.size g #[.int .i64 s, .int .i64 d, .int .i64 (boundX (2 * v))] hne).trans HY1.out)
  have HB3 := Lib.hid (below_setRow HB2.out (Nat.le_refl _) #[.int .i64 s, .int .i64 d, .int .i64 (boundX (2 * v))])
  clear b0 b1 b2 hfz hne
  generalize w2.setRow w.heap.size #[.int .i64 s, .int .i64 d, .int .i64 (boundX (2 * v))] = w3 at *
  go_wp2_with (first | (refine wpList_load_row rfl 23 _ rfl w.heap.size rfl 23 _ _ _ HZ0.out Try.underlying23 rfl (by kernel_rfl) ?_) | (refine wpList_store_row rfl 23 _ _ rfl g _ rfl rfl 23 #[.int .i64 0, .int .i64 0, .int .i64 0] HZ1.out (by kernel_rfl) rfl (by simp [Value.oneCell']) ?_))
  refine ret_one (g := g) rfl rfl (setRow_heap _ _ _ _ _ _ HZ1.out) Try.underlying23 rfl (by kernel_rfl) rfl ?_
  exact ⟨rfl, below_setRow HB3.out (by have := HG.out; omega) _⟩
end Go.Proofs.Ytafpnmmkaanjaaa
