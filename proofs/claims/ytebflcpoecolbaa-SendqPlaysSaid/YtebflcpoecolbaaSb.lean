/-
  What Right of layer 18 tells; the code's of a state that may be is right; pieces as data. No condition.
-/
import Derived.Test.YtebflcpoecolbaaSl
namespace Go.Proofs.Ytebflcpoecolbaa
open Go.RowKit

def rightB (n : Nat) (z : Int) (f fs fa : Bool) : Bool := decide (n ≤ 256) && decide (0 ≤ z) && decide (z ≤ n) && (!fs || (f && decide (z = n))) && (!fa || (fs && decide (n = 0)))
theorem conc_right {x : Sx} (h : OkS x) : rightB (concS x).data.length ((concS x).sent : Int) (concS x).fin (concS x).fsent (concS x).facked = true := by
  have h1 := h.from_le
  have h2 := h.sent
  have h3 := h.room
  have h4 := h.acked
  have hd : (concS x).data.length = x.all.length - fromS x := by show (x.all.drop (fromS x)).length = _; rw [List.length_drop]
  have hs : (concS x).sent = x.sent - fromS x := rfl
  have hf : (concS x).fin = x.fin := rfl
  have hfs : (concS x).fsent = x.fsent := rfl
  have hfa : (concS x).facked = decide (x.all.length < x.acked) := rfl
  rw [hd, hs, hf, hfs, hfa]
  unfold rightB
  have e1 : decide (x.all.length - fromS x ≤ 256) = true := decide_eq_true h3
  have e2 : decide (0 ≤ ((x.sent - fromS x : Nat) : Int)) = true := decide_eq_true (Int.natCast_nonneg _)
  have e3 : decide (((x.sent - fromS x : Nat) : Int) ≤ ((x.all.length - fromS x : Nat) : Int)) = true := decide_eq_true (by omega)
  rw [e1, e2, e3]
  cases hc : x.fsent
  · rw [hc, if_neg (by decide)] at h4
    rw [decide_eq_false (show ¬ x.all.length < x.acked by omega)]
    rfl
  · obtain ⟨h5, h6⟩ := h.fsent hc
    rw [h5, decide_eq_true (show ((x.sent - fromS x : Nat) : Int) = ((x.all.length - fromS x : Nat) : Int) by omega)]
    by_cases hlt : x.all.length < x.acked
    · rw [decide_eq_true hlt, decide_eq_true (show x.all.length - fromS x = 0 by unfold fromS; omega)]
      rfl
    · rw [decide_eq_false hlt]
      rfl
/-- a piece -/
def spcD (a : Int) (l : List UInt8) : List Dat := [.val (.int .u32 a), bytesD l]
theorem next_noE {x : Sx} {window mss : Int} (h : nextO x window mss = false) : nextE x window mss = false := by
  unfold nextO at h
  exact (Bool.or_eq_false_iff.1 h).2
theorem again_noE {x : Sx} {mss : Int} (h : againO x mss = false) : againE x mss = false := by
  unfold againO at h
  exact (Bool.or_eq_false_iff.1 h).2
/-- what Next and Again tell of a piece -/
def nextP (x : Sx) (window mss : Int) : List Dat := if nextO x window mss = true then spcD (addS x.first (x.sent : Nat)) (nextB x window mss) else spcD 0 []
def againP (x : Sx) (mss : Int) : List Dat := if againO x mss = true then spcD (addS x.first (againF x : Nat)) (againB x mss) else spcD 0 []
end Go.Proofs.Ytebflcpoecolbaa
