/-
  caravelref05.Same: whether two frames are one. Every two frames that can be read.
-/
import Derived.Test.YtooepllgefndnaaEq
namespace Go.Proofs.Ytooepllgefndnaa
open Go.RowKit

theorem beqT {a b : Int} (h : a = b) : (a == b) = true := by simp [h]
theorem beqF {a b : Int} (h : a ≠ b) : (a == b) = false := by simp [h]
theorem texts_ne {s t : List UInt8} (h : s ≠ t) : (s == t) = false ∧ ((⟨s.toArray⟩ : ByteArray).toList == (⟨t.toArray⟩ : ByteArray).toList) = false := by
  have h1 : (s == t) = false := by rw [beq_eq_false_iff_ne]; exact h
  refine ⟨h1, ?_⟩
  rw [Lib.toList_data, Lib.toList_data]
  exact h1

set_option maxRecDepth 100000 in
set_option maxHeartbeats 2000000 in
theorem same_lit (cs ds : Array Value) (x0 x1 x2 x3 x4 x5 y0 y1 y2 y3 y4 y5 u0 u1 u2 u3 u4 u5 v0 v1 v2 v3 v4 v5 : UInt8) (t t' : Nat) (b b' : List UInt8) (A A' : Option Addr) (n n' c c' lo hi lo' hi' : Nat) (w : World)
    (h00 : cs[0]? = some (.int .u8 (x0.toNat : Int))) (h01 : cs[1]? = some (.int .u8 (x1.toNat : Int))) (h02 : cs[2]? = some (.int .u8 (x2.toNat : Int))) (h03 : cs[3]? = some (.int .u8 (x3.toNat : Int))) (h04 : cs[4]? = some (.int .u8 (x4.toNat : Int))) (h05 : cs[5]? = some (.int .u8 (x5.toNat : Int))) (h06 : cs[6]? = some (.int .u8 (y0.toNat : Int))) (h07 : cs[7]? = some (.int .u8 (y1.toNat : Int))) (h08 : cs[8]? = some (.int .u8 (y2.toNat : Int))) (h09 : cs[9]? = some (.int .u8 (y3.toNat : Int))) (h010 : cs[10]? = some (.int .u8 (y4.toNat : Int))) (h011 : cs[11]? = some (.int .u8 (y5.toNat : Int))) (h012 : cs[12]? = some (.int .u16 (t : Int))) (h013 : cs[13]? = some (.slice A n c)) (h10 : ds[0]? = some (.int .u8 (u0.toNat : Int))) (h11 : ds[1]? = some (.int .u8 (u1.toNat : Int))) (h12 : ds[2]? = some (.int .u8 (u2.toNat : Int))) (h13 : ds[3]? = some (.int .u8 (u3.toNat : Int))) (h14 : ds[4]? = some (.int .u8 (u4.toNat : Int))) (h15 : ds[5]? = some (.int .u8 (u5.toNat : Int))) (h16 : ds[6]? = some (.int .u8 (v0.toNat : Int))) (h17 : ds[7]? = some (.int .u8 (v1.toNat : Int))) (h18 : ds[8]? = some (.int .u8 (v2.toNat : Int))) (h19 : ds[9]? = some (.int .u8 (v3.toNat : Int))) (h110 : ds[10]? = some (.int .u8 (v4.toNat : Int))) (h111 : ds[11]? = some (.int .u8 (v5.toNat : Int))) (h112 : ds[12]? = some (.int .u16 (t' : Int))) (h113 : ds[13]? = some (.slice A' n' c'))
    (hr : Rd w lo hi A (cells b)) (hr' : Rd w lo' hi' A' (cells b')) (hn : b.length = n) (hn' : b'.length = n') (hhi : hi ≤ w.heap.size) (hhi' : hi' ≤ w.heap.size) :
    Calls Try.prog 13 #[.agg cs, .agg ds] w fun e w' => e = .returned (.bool (frEq ⟨[x0, x1, x2, x3, x4, x5], [y0, y1, y2, y3, y4, y5], t, b⟩ ⟨[u0, u1, u2, u3, u4, u5], [v0, v1, v2, v3, v4, v5], t', b'⟩)) ∧ Below w.heap.size w w' := by
  have HB := Lib.hid (((Below.refl w.heap.size w).alloc (Nat.le_refl _) (.cells cs 27)).alloc (by simp) (.cells ds 27))
  have hr2 := (hr.alloc hhi (.cells cs 27)).alloc (by simp; omega) (.cells ds 27)
  have hr3 := (hr'.alloc hhi' (.cells cs 27)).alloc (by simp; omega) (.cells ds 27)
  have ht1 := run_text (P := Try.prog) _ 25 9 5 c Try.underlying25 Try.underlying5 Try.underlying9 hr2
  have ht2 := run_text (P := Try.prog) _ 25 9 5 c' Try.underlying25 Try.underlying5 Try.underlying9 hr3
  rw [hn] at ht1
  rw [hn'] at ht2
  have HE := Lib.hid (rfl : frEq ⟨[x0, x1, x2, x3, x4, x5], [y0, y1, y2, y3, y4, y5], t, b⟩ ⟨[u0, u1, u2, u3, u4, u5], [v0, v1, v2, v3, v4, v5], t', b'⟩ = decide ([x0, x1, x2, x3, x4, x5] = [u0, u1, u2, u3, u4, u5] ∧ [y0, y1, y2, y3, y4, y5] = [v0, v1, v2, v3, v4, v5] ∧ t = t' ∧ b = b'))
  clear hr hr' hr2 hr3 hn hn' hhi hhi'
  by_cases e1 : [x0, x1, x2, x3, x4, x5] = [u0, u1, u2, u3, u4, u5]
  · have q1 := eqv_mac 9998 x0 x1 x2 x3 x4 x5 u0 u1 u2 u3 u4 u5 true (decide_eq_true e1)
    by_cases e2 : [y0, y1, y2, y3, y4, y5] = [v0, v1, v2, v3, v4, v5]
    · have q2 := eqv_mac 9998 y0 y1 y2 y3 y4 y5 v0 v1 v2 v3 v4 v5 true (decide_eq_true e2)
      by_cases e3 : t = t'
      · have q3 := beqT (show (t : Int) = (t' : Int) by omega)
        by_cases e4 : b = b'
        · have HV := Lib.hid (HE.out.trans (decide_eq_true ⟨e1, e2, e3, e4⟩))
          subst e4
          clear e1 e2 e3 HE
          go_enter Try.func13, Try.ntmps13
          go_wp2
          go_ret
          exact ⟨by rw [HV.out]; rfl, HB.out⟩
        · have HV := Lib.hid (HE.out.trans (decide_eq_false fun h => e4 h.2.2.2))
          obtain ⟨q4, q5⟩ := texts_ne e4
          clear e1 e2 e3 e4 HE
          go_enter Try.func13, Try.ntmps13
          go_wp2
          go_ret
          exact ⟨by rw [HV.out]; rfl, HB.out⟩
      · have q3 := beqF (show ¬ (t : Int) = (t' : Int) by omega)
        have HV := Lib.hid (HE.out.trans (decide_eq_false fun h => e3 h.2.2.1))
        clear e1 e2 e3 HE ht1 ht2
        go_enter Try.func13, Try.ntmps13
        go_wp2
        go_ret
        exact ⟨by rw [HV.out]; rfl, HB.out⟩
    · have q2 := eqv_mac 9998 y0 y1 y2 y3 y4 y5 v0 v1 v2 v3 v4 v5 false (decide_eq_false e2)
      have HV := Lib.hid (HE.out.trans (decide_eq_false fun h => e2 h.2.1))
      clear e1 e2 HE ht1 ht2
      go_enter Try.func13, Try.ntmps13
      go_wp2
      go_ret
      exact ⟨by rw [HV.out]; rfl, HB.out⟩
  · have q1 := eqv_mac 9998 x0 x1 x2 x3 x4 x5 u0 u1 u2 u3 u4 u5 false (decide_eq_false e1)
    have HV := Lib.hid (HE.out.trans (decide_eq_false fun h => e1 h.1))
    clear e1 HE ht1 ht2
    go_enter Try.func13, Try.ntmps13
    go_wp2
    go_ret
    exact ⟨by rw [HV.out]; rfl, HB.out⟩

/-- Same, all of it -/
theorem same_any (cs ds : Array Value) (f g : Fr) (lo hi lo' hi' : Nat) (w : World) (h : FrV w lo hi cs f) (h' : FrV w lo' hi' ds g) (hhi : hi ≤ w.heap.size) (hhi' : hi' ≤ w.heap.size) :
    Calls Try.prog 13 #[.agg cs, .agg ds] w fun e w' => e = .returned (.bool (frEq f g)) ∧ Below w.heap.size w w' := by
  obtain ⟨A, c, he, hok, hrd, _, _, _⟩ := h
  obtain ⟨A', c', he', hok', hrd', _, _, _⟩ := h'
  obtain ⟨d, s, t, b⟩ := f
  obtain ⟨d', s', t', b'⟩ := g
  obtain ⟨hd, hs, _⟩ := hok
  obtain ⟨hd', hs', _⟩ := hok'
  simp only at hd hs hd' hs' hrd hrd' he he'
  obtain ⟨x0, x1, x2, x3, x4, x5, rfl⟩ := six_of d hd
  obtain ⟨y0, y1, y2, y3, y4, y5, rfl⟩ := six_of s hs
  obtain ⟨u0, u1, u2, u3, u4, u5, rfl⟩ := six_of d' hd'
  obtain ⟨v0, v1, v2, v3, v4, v5, rfl⟩ := six_of s' hs'
  exact same_lit cs ds x0 x1 x2 x3 x4 x5 y0 y1 y2 y3 y4 y5 u0 u1 u2 u3 u4 u5 v0 v1 v2 v3 v4 v5 t t' b b' A A' b.length b'.length c c' lo hi lo' hi' w (by subst he; rfl) (by subst he; rfl) (by subst he; rfl) (by subst he; rfl) (by subst he; rfl) (by subst he; rfl) (by subst he; rfl) (by subst he; rfl) (by subst he; rfl) (by subst he; rfl) (by subst he; rfl) (by subst he; rfl) (by subst he; rfl) (by subst he; rfl) (by subst he'; rfl) (by subst he'; rfl) (by subst he'; rfl) (by subst he'; rfl) (by subst he'; rfl) (by subst he'; rfl) (by subst he'; rfl) (by subst he'; rfl) (by subst he'; rfl) (by subst he'; rfl) (by subst he'; rfl) (by subst he'; rfl) (by subst he'; rfl) (by subst he'; rfl) hrd hrd' rfl rfl hhi hhi'
end Go.Proofs.Ytooepllgefndnaa
