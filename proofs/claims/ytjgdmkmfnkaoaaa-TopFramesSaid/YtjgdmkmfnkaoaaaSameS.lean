/-
  segment.Len: how many numbers a segment takes; the document's Same: are two segments one. Everything that can be read. No condition.
-/
import Derived.Test.YtjgdmkmfnkaoaaaFld
namespace Go.Proofs.Ytjgdmkmfnkaoaaa
open Go.RowKit

theorem and_1 (x : Nat) (h : x < 256) : bits .and .u8 (x : Int) 1 = ((x % 2 : Nat) : Int) := by
  rw [show (1 : Int) = ((1 : Nat) : Int) from rfl, u8_and_nat x 1 h (by omega), Nat.and_one_is_mod]
set_option maxRecDepth 100000 in
set_option maxHeartbeats 1000000 in
theorem len_any (cs : Array Value) (x : Sg) (lo hi : Nat) (w : World) (h : SgC w lo hi cs x) (hn : x.data.length ≤ 1000000000) :
    Calls Try.prog 15 #[.agg cs] w fun e w' => e = .returned (.int .i64 (sgLen x : Nat)) ∧ Below w.heap.size w w' := by
  obtain ⟨A, c, rfl, _, hr, hlc, hcm, _⟩ := h
  have HB := Lib.hid ((Below.refl w.heap.size w).alloc (Nat.le_refl _) (.cells #[.int .u16 (x.src : Int), .int .u16 (x.dst : Int), .int .u32 (x.seq : Int), .int .u32 (x.ack : Int), .int .u8 (x.flags.toNat : Int), .int .u16 (x.wnd : Int), .int .u16 (x.mss : Int), .slice A x.data.length c] 26))
  have hfl := x.flags.toNat_lt
  have HL : Hid (sgLen x = x.data.length + x.flags.toNat / 2 % 2 + x.flags.toNat % 2) := rfl
  generalize sgLen x = r at HL ⊢
  generalize x.data.length = n at *
  generalize x.flags.toNat = y at *
  have a2 := and_2 y (by omega)
  have a1 := and_1 y (by omega)
  unfold maxLen at hcm
  obtain ⟨b, hb⟩ : ∃ b, y / 2 % 2 = b := ⟨_, rfl⟩
  obtain ⟨d, hd⟩ : ∃ d, y % 2 = d := ⟨_, rfl⟩
  have hb2 : b = 0 ∨ b = 1 := by omega
  have hd2 : d = 0 ∨ d = 1 := by omega
  rw [hb] at a2 HL
  rw [hd] at a1 HL
  clear hr hb hd
  rcases hb2 with rfl | rfl
  all_goals
    rcases hd2 with rfl | rfl
    all_goals
      go_enter Try.func15, Try.ntmps15
      go_wp2
      go_ret
      refine ⟨?_, HB.out⟩
      rw [HL.out]
      congr 2
set_option maxRecDepth 100000 in
set_option maxHeartbeats 4000000 in
theorem samesg_any (cs ds : Array Value) (x y : Sg) (lo hi lo' hi' : Nat) (w : World) (hx : SgC w lo hi cs x) (hy : SgC w lo' hi' ds y) (hhi : hi ≤ w.heap.size) (hhi' : hi' ≤ w.heap.size) :
    Calls Try.prog 14 #[.agg cs, .agg ds] w fun e w' => e = .returned (.bool (sgEq x y)) ∧ Below w.heap.size w w' := by
  obtain ⟨A, c, rfl, _, hr, _⟩ := hx
  obtain ⟨A', c', rfl, _, hr', _⟩ := hy
  have HB := Lib.hid (((Below.refl w.heap.size w).alloc (Nat.le_refl _) (.cells #[.int .u16 (x.src : Int), .int .u16 (x.dst : Int), .int .u32 (x.seq : Int), .int .u32 (x.ack : Int), .int .u8 (x.flags.toNat : Int), .int .u16 (x.wnd : Int), .int .u16 (x.mss : Int), .slice A x.data.length c] 26)).alloc (by simp) (.cells #[.int .u16 (y.src : Int), .int .u16 (y.dst : Int), .int .u32 (y.seq : Int), .int .u32 (y.ack : Int), .int .u8 (y.flags.toNat : Int), .int .u16 (y.wnd : Int), .int .u16 (y.mss : Int), .slice A' y.data.length c'] 26))
  have ht1 := run_text (P := Try.prog) _ 24 9 5 c Try.underlying24 Try.underlying5 Try.underlying9 ((hr.alloc hhi (.cells #[.int .u16 (x.src : Int), .int .u16 (x.dst : Int), .int .u32 (x.seq : Int), .int .u32 (x.ack : Int), .int .u8 (x.flags.toNat : Int), .int .u16 (x.wnd : Int), .int .u16 (x.mss : Int), .slice A x.data.length c] 26)).alloc (by simp; omega) (.cells #[.int .u16 (y.src : Int), .int .u16 (y.dst : Int), .int .u32 (y.seq : Int), .int .u32 (y.ack : Int), .int .u8 (y.flags.toNat : Int), .int .u16 (y.wnd : Int), .int .u16 (y.mss : Int), .slice A' y.data.length c'] 26))
  have ht2 := run_text (P := Try.prog) _ 24 9 5 c' Try.underlying24 Try.underlying5 Try.underlying9 ((hr'.alloc hhi' (.cells #[.int .u16 (x.src : Int), .int .u16 (x.dst : Int), .int .u32 (x.seq : Int), .int .u32 (x.ack : Int), .int .u8 (x.flags.toNat : Int), .int .u16 (x.wnd : Int), .int .u16 (x.mss : Int), .slice A x.data.length c] 26)).alloc (by simp; omega) (.cells #[.int .u16 (y.src : Int), .int .u16 (y.dst : Int), .int .u32 (y.seq : Int), .int .u32 (y.ack : Int), .int .u8 (y.flags.toNat : Int), .int .u16 (y.wnd : Int), .int .u16 (y.mss : Int), .slice A' y.data.length c'] 26))
  clear hr hr' hhi hhi'
  obtain ⟨xs, xd, xq, xa, xf, xv, xm, xl⟩ := x
  obtain ⟨ys, yd, yq, ya, yf, yv, ym, yl⟩ := y
  simp only at *
  obtain ⟨r, hr⟩ : ∃ r, sgEq ⟨xs, xd, xq, xa, xf, xv, xm, xl⟩ ⟨ys, yd, yq, ya, yf, yv, ym, yl⟩ = r := ⟨_, rfl⟩
  have hr2 : decide (xs = ys ∧ xd = yd ∧ xq = yq ∧ xa = ya ∧ xf = yf ∧ xv = yv ∧ xm = ym ∧ xl = yl) = r := hr
  rw [hr]
  generalize xl.length = n at *
  generalize yl.length = n' at *
  clear hr
  by_cases e0 : xs = ys
  · have q0 := beqT (show (xs : Int) = (ys : Int) by omega)
    by_cases e1 : xd = yd
    · have q1 := beqT (show (xd : Int) = (yd : Int) by omega)
      by_cases e2 : xq = yq
      · have q2 := beqT (show (xq : Int) = (yq : Int) by omega)
        by_cases e3 : xa = ya
        · have q3 := beqT (show (xa : Int) = (ya : Int) by omega)
          by_cases e4 : xf = yf
          · have q4 := beqT (show (xf.toNat : Int) = (yf.toNat : Int) by rw [e4])
            by_cases e5 : xv = yv
            · have q5 := beqT (show (xv : Int) = (yv : Int) by omega)
              by_cases e6 : xm = ym
              · have q6 := beqT (show (xm : Int) = (ym : Int) by omega)
                by_cases e8 : xl = yl
                · subst e8
                  have hr3 : r = true := by rw [← hr2]; simp [e0, e1, e2, e3, e4, e5, e6]
                  subst hr3
                  clear hr2 e0 e1 e2 e3 e4 e5 e6
                  go_enter Try.func14, Try.ntmps14
                  go_wp2
                  go_ret
                  exact ⟨rfl, HB.out⟩
                · obtain ⟨q8, q9⟩ := texts_ne e8
                  have hr3 : r = false := by rw [← hr2]; simp [e8]
                  subst hr3
                  clear hr2 e8 e0 e1 e2 e3 e4 e5 e6
                  go_enter Try.func14, Try.ntmps14
                  go_wp2
                  go_ret
                  exact ⟨rfl, HB.out⟩
              · have q6 := beqF (show ¬ (xm : Int) = (ym : Int) by omega)
                have hr3 : r = false := by rw [← hr2]; simp [e6]
                subst hr3
                clear hr2 e6 e0 e1 e2 e3 e4 e5
                go_enter Try.func14, Try.ntmps14
                go_wp2
                go_ret
                exact ⟨rfl, HB.out⟩
            · have q5 := beqF (show ¬ (xv : Int) = (yv : Int) by omega)
              have hr3 : r = false := by rw [← hr2]; simp [e5]
              subst hr3
              clear hr2 e5 e0 e1 e2 e3 e4
              go_enter Try.func14, Try.ntmps14
              go_wp2
              go_ret
              exact ⟨rfl, HB.out⟩
          · have q4 := beqF (u8_ne e4)
            have hr3 : r = false := by rw [← hr2]; simp [e4]
            subst hr3
            clear hr2 e4 e0 e1 e2 e3
            go_enter Try.func14, Try.ntmps14
            go_wp2
            go_ret
            exact ⟨rfl, HB.out⟩
        · have q3 := beqF (show ¬ (xa : Int) = (ya : Int) by omega)
          have hr3 : r = false := by rw [← hr2]; simp [e3]
          subst hr3
          clear hr2 e3 e0 e1 e2
          go_enter Try.func14, Try.ntmps14
          go_wp2
          go_ret
          exact ⟨rfl, HB.out⟩
      · have q2 := beqF (show ¬ (xq : Int) = (yq : Int) by omega)
        have hr3 : r = false := by rw [← hr2]; simp [e2]
        subst hr3
        clear hr2 e2 e0 e1
        go_enter Try.func14, Try.ntmps14
        go_wp2
        go_ret
        exact ⟨rfl, HB.out⟩
    · have q1 := beqF (show ¬ (xd : Int) = (yd : Int) by omega)
      have hr3 : r = false := by rw [← hr2]; simp [e1]
      subst hr3
      clear hr2 e1 e0
      go_enter Try.func14, Try.ntmps14
      go_wp2
      go_ret
      exact ⟨rfl, HB.out⟩
  · have q0 := beqF (show ¬ (xs : Int) = (ys : Int) by omega)
    have hr3 : r = false := by rw [← hr2]; simp [e0]
    subst hr3
    clear hr2 e0 
    go_enter Try.func14, Try.ntmps14
    go_wp2
    go_ret
    exact ⟨rfl, HB.out⟩
end Go.Proofs.Ytjgdmkmfnkaoaaa
