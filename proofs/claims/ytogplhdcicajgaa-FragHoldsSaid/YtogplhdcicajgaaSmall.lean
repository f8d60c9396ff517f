/-
  frag.end, frag.formed: their answers, for every packet that can be read. No condition.
-/
import Derived.Test.YtogplhdcicajgaaCut
namespace Go.Proofs.Ytogplhdcicajgaa
open Go.RowKit

/-- where a piece ends -/
def endP (p : Pk) : Int := p.off + (p.data.length : Int)
def formedB (p : Pk) : Bool := decide (p.off % 8 = 0) && !decide (p.data.length = 0) && (!p.more || decide (p.data.length % 8 = 0))

set_option maxHeartbeats 400000 in
theorem end_any (cs : Array Value) (p : Pk) (lo hi : Nat) (w : World) (h : PkV w lo hi cs p) (h0 : 0 ≤ p.off) (h1 : p.off ≤ 1000) (hm : p.data.length ≤ 1000000000) :
    Calls Try.prog 12 #[.agg cs] w fun e w' => e = .returned (.int .i64 (endP p)) ∧ Below w.heap.size w w' := by
  have HB := Lib.hid ((Below.refl w.heap.size w).alloc (Nat.le_refl _) (.cells cs 27))
  have h2 := h.off_cell
  obtain ⟨A, c, _, _, h13, _⟩ := h.parts
  have HE : Hid (endP p = p.off + (p.data.length : Int)) := rfl
  generalize p.data.length = n at *
  generalize p.off = off at *
  generalize endP p = r at *
  clear h
  go_enter Try.func12, Try.ntmps12
  go_wp2
  go_ret
  exact ⟨by rw [HE.out]; rfl, HB.out⟩

set_option maxHeartbeats 1000000 in
theorem formed_any (cs : Array Value) (p : Pk) (lo hi : Nat) (w : World) (h : PkV w lo hi cs p) (h0 : 0 ≤ p.off) (h1 : p.off ≤ 1000) (hm : p.data.length ≤ 1000000000) :
    Calls Try.prog 13 #[.agg cs] w fun e w' => e = .returned (.bool (formedB p)) ∧ Below w.heap.size w w' := by
  have HB := Lib.hid ((Below.refl w.heap.size w).alloc (Nat.le_refl _) (.cells cs 27))
  have h2 := h.off_cell
  obtain ⟨A, c, hm1, _, h13, _⟩ := h.parts
  have HE : Hid (formedB p = (decide (p.off % 8 = 0) && !decide (p.data.length = 0) && (!p.more || decide (p.data.length % 8 = 0)))) := rfl
  generalize p.data.length = n at *
  generalize p.off = off at *
  generalize p.more = mr at *
  generalize formedB p = r at *
  clear h
  by_cases c1 : off % 8 = 0
  · have c1' : (off % 8 != 0) = false := bneF c1
    by_cases c2 : n = 0
    · have HV : Hid (r = false) := by show _ = _; rw [HE.out]; simp [c2]
      subst c2
      clear c1
      go_enter Try.func13, Try.ntmps13
      go_wp2
      go_ret
      exact ⟨by rw [HV.out]; rfl, HB.out⟩
    · have c2' : ((n : Int) == 0) = false := beqF (by omega)
      cases mr
      · have HV : Hid (r = true) := by show _ = _; rw [HE.out]; simp [c1, c2]
        clear c1 c2
        go_enter Try.func13, Try.ntmps13
        go_wp2
        go_ret
        exact ⟨by rw [HV.out]; rfl, HB.out⟩
      · by_cases c3 : n % 8 = 0
        · have HV : Hid (r = true) := by show _ = _; rw [HE.out]; simp [c1, c2, c3]
          have c3' : ((n : Int) % 8 == 0) = true := beqT (by omega)
          clear c1 c2 c3
          go_enter Try.func13, Try.ntmps13
          go_wp2
          go_ret
          exact ⟨by rw [HV.out]; rfl, HB.out⟩
        · have HV : Hid (r = false) := by show _ = _; rw [HE.out]; simp [c3]
          have c3' : ((n : Int) % 8 == 0) = false := beqF (by omega)
          clear c1 c2 c3
          go_enter Try.func13, Try.ntmps13
          go_wp2
          go_ret
          exact ⟨by rw [HV.out]; rfl, HB.out⟩
  · have c1' : (off % 8 != 0) = true := bneT c1
    have HV : Hid (r = false) := by show _ = _; rw [HE.out]; simp [c1]
    clear c1
    go_enter Try.func13, Try.ntmps13
    go_wp2
    go_ret
    exact ⟨by rw [HV.out]; rfl, HB.out⟩
end Go.Proofs.Ytogplhdcicajgaa
