/-
  What goes to the other side, as plain data: the document's (Sx: all that was ever written), the code's (Sq), one of the other; what each call answers; what may be. No condition.
-/
import Derived.Test.YtebflcpoecolbaaFrm
import Derived.Test.YtebflcpoecolbaaSqR
namespace Go.Proofs.Ytebflcpoecolbaa
open Go.RowKit

/-- the document's -/
structure Sx where
  first : Int
  all : List UInt8
  acked : Nat
  sent : Nat
  fin : Bool
  fsent : Bool
/-- the code's -/
structure Sq where
  una : Int
  data : List UInt8
  sent : Nat
  fin : Bool
  fsent : Bool
  facked : Bool
def sxC (x : Sx) : Array Value := #[.int .u32 x.first, txtV x.all, .int .i64 (x.acked : Int), .int .i64 (x.sent : Int), .bool x.fin, .bool x.fsent]
theorem sx_ones (x : Sx) : (sxC x).all (·.oneCell') = true := by simp [sxC, txtV, Value.oneCell']
def sqD (q : Sq) : List Dat := [.val (.int .u32 q.una), bytesD q.data, .val (.int .i64 (q.sent : Int)), .val (.bool q.fin), .val (.bool q.fsent), .val (.bool q.facked)]
/-- how many bytes were acknowledged -/
def fromS (x : Sx) : Nat := min x.acked x.all.length
def concS (x : Sx) : Sq := ⟨addS x.first x.acked, x.all.drop (fromS x), x.sent - fromS x, x.fin, x.fsent, decide (x.all.length < x.acked)⟩

/-! ### the document's answers -/
def roomS (x : Sx) : Nat := if x.fin = true then 0 else 256 - (x.all.length - fromS x)
def writeN (x : Sx) (s : List UInt8) : Nat := min s.length (roomS x)
def writeS (x : Sx) (s : List UInt8) : Sx := { x with all := x.all ++ s.take (writeN x s) }
def flightS (x : Sx) : Nat := (if x.fsent = true then x.sent + 1 else x.sent) - x.acked
/-- how many bytes go next -/
def nextN (x : Sx) (window mss : Int) : Nat := min (x.all.length - x.sent) (max 0 (min mss (max window 0 - ((x.sent - min x.acked x.sent : Nat) : Int)))).toNat
def nextE (x : Sx) (window mss : Int) : Bool := x.fin && !x.fsent && decide (x.sent + nextN x window mss = x.all.length)
def nextO (x : Sx) (window mss : Int) : Bool := decide (nextN x window mss ≠ 0) || nextE x window mss
def nextS (x : Sx) (window mss : Int) : Sx := { x with sent := x.sent + nextN x window mss, fsent := x.fsent || nextE x window mss }
def nextB (x : Sx) (window mss : Int) : List UInt8 := (x.all.drop x.sent).take (nextN x window mss)
def againF (x : Sx) : Nat := min x.acked x.sent
def againT (x : Sx) (mss : Int) : Nat := againF x + (max 0 (min ((x.sent - againF x : Nat) : Int) mss)).toNat
def againE (x : Sx) (mss : Int) : Bool := x.fsent && decide (x.acked ≤ x.all.length) && decide (againT x mss = x.all.length)
def againO (x : Sx) (mss : Int) : Bool := decide (againF x ≠ againT x mss) || againE x mss
def againB (x : Sx) (mss : Int) : List UInt8 := (x.all.drop (againF x)).take (againT x mss - againF x)
def ackD (x : Sx) (a : Int) : Int := diffS a (addS x.first x.acked)
def ackO (x : Sx) (a : Int) : Bool := decide (0 < ackD x a) && decide (ackD x a ≤ flightS x)
def ackS (x : Sx) (a : Int) : Sx := if ackO x a = true then { x with acked := x.acked + (ackD x a).toNat } else x
def ackN (x : Sx) (a : Int) : Int := if ackO x a = true then ackD x a else 0
def ackE (x : Sx) (a : Int) : Int := if 0 < ackD x a ∧ (flightS x : Int) < ackD x a then 1 else 0
def closeS (x : Sx) : Sx := { x with fin := true }
def emptyS (x : Sx) : Bool := decide (x.all.length ≤ x.acked) && (!x.fin || decide (x.all.length < x.acked))
def newS (n : Int) : Sx := ⟨n, [], 0, 0, false, false⟩
/-- what may be -/
structure OkS (x : Sx) : Prop where
  first : U32 x.first
  sent : x.sent ≤ x.all.length
  acked : x.acked ≤ if x.fsent = true then x.sent + 1 else x.sent
  fsent : x.fsent = true → x.fin = true ∧ x.sent = x.all.length
  room : x.all.length - fromS x ≤ 256
theorem OkS.from_le {x : Sx} (h : OkS x) : fromS x ≤ x.sent := by
  have h1 := h.acked
  have h2 := h.sent
  unfold fromS
  split at h1
  · rename_i hf
    have := (h.fsent hf).2
    omega
  · omega
theorem OkS.from_again {x : Sx} (h : OkS x) : againF x = fromS x := by
  have h1 := h.acked
  have h2 := h.sent
  unfold againF fromS
  split at h1
  · rename_i hf
    have := (h.fsent hf).2
    omega
  · omega
theorem new_okS {n : Int} (h : U32 n) : OkS (newS n) := ⟨h, Nat.le_refl _, Nat.le_refl _, fun h => (by cases h), by show 0 - 0 ≤ 256; omega⟩
theorem write_okS {x : Sx} (h : OkS x) (s : List UInt8) : OkS (writeS x s) := by
  have h1 := h.acked
  have h2 := h.sent
  have h3 := h.room
  have hn : writeN x s ≤ s.length := Nat.min_le_left ..
  have hl : (writeS x s).all.length = x.all.length + writeN x s := by
    show (x.all ++ s.take (writeN x s)).length = _
    rw [List.length_append, List.length_take]
    omega
  have hr : writeN x s ≤ roomS x := Nat.min_le_right ..
  refine ⟨h.first, by rw [hl]; exact Nat.le_trans h2 (Nat.le_add_right ..), h.acked, fun hf => ?_, ?_⟩
  · have h4 := h.fsent hf
    refine ⟨h4.1, ?_⟩
    rw [hl]
    have : roomS x = 0 := by unfold roomS; rw [if_pos h4.1]
    show x.sent = _
    omega
  · unfold fromS at h3 ⊢
    rw [hl]
    show x.all.length + writeN x s - min x.acked (x.all.length + writeN x s) ≤ 256
    unfold roomS fromS at hr
    split at hr
    · omega
    · omega
theorem next_okS {x : Sx} (h : OkS x) (window mss : Int) : OkS (nextS x window mss) := by
  have h1 := h.acked
  have h2 := h.sent
  have hn : nextN x window mss ≤ x.all.length - x.sent := Nat.min_le_left ..
  refine ⟨h.first, ?_, ?_, fun hf => ?_, h.room⟩
  · show x.sent + nextN x window mss ≤ x.all.length
    omega
  · show x.acked ≤ if (x.fsent || nextE x window mss) = true then x.sent + nextN x window mss + 1 else x.sent + nextN x window mss
    cases hf : x.fsent
    · rw [hf, if_neg (by decide)] at h1
      split <;> omega
    · rw [hf, if_pos rfl] at h1
      rw [Bool.true_or, if_pos rfl]
      omega
  · have hf : (x.fsent || nextE x window mss) = true := hf
    show x.fin = true ∧ x.sent + nextN x window mss = x.all.length
    cases hs : x.fsent
    · rw [hs, Bool.false_or] at hf
      unfold nextE at hf
      rw [Bool.and_eq_true, Bool.and_eq_true] at hf
      exact ⟨hf.1.1, of_decide_eq_true hf.2⟩
    · have h4 := h.fsent hs
      exact ⟨h4.1, by omega⟩
theorem flight_le {x : Sx} (h : OkS x) : x.acked + flightS x = if x.fsent = true then x.sent + 1 else x.sent := by
  have h1 := h.acked
  unfold flightS
  omega
theorem ack_okS {x : Sx} (h : OkS x) (a : Int) : OkS (ackS x a) := by
  unfold ackS
  split
  · rename_i ho
    unfold ackO at ho
    rw [Bool.and_eq_true] at ho
    have h1 := of_decide_eq_true ho.1
    have h2 := of_decide_eq_true ho.2
    have h3 := flight_le h
    have h4 := h.room
    refine ⟨h.first, h.sent, ?_, h.fsent, ?_⟩
    · show x.acked + (ackD x a).toNat ≤ if x.fsent = true then x.sent + 1 else x.sent
      omega
    · unfold fromS at h4 ⊢
      show x.all.length - min (x.acked + (ackD x a).toNat) x.all.length ≤ 256
      omega
  · exact h
theorem close_okS {x : Sx} (h : OkS x) : OkS (closeS x) := ⟨h.first, h.sent, h.acked, fun hf => ⟨rfl, (h.fsent hf).2⟩, h.room⟩
/-! ### moved -/
def mvS (t : Int) (x : Sx) : Sx := { x with first := addS x.first t }
theorem diff_movedS (a n t : Int) : diffS (addS a t) (addS n t) = diffS a n := by unfold diffS addS; omega
theorem add_swapS (n t k : Int) : addS (addS n t) k = addS (addS n k) t := by unfold addS; omega
theorem write_movedS (x : Sx) (t : Int) (s : List UInt8) : writeS (mvS t x) s = mvS t (writeS x s) := rfl
theorem next_movedS (x : Sx) (t u v : Int) : nextS (mvS t x) u v = mvS t (nextS x u v) := rfl
theorem ackD_moved (x : Sx) (t a : Int) : ackD (mvS t x) (addS a t) = ackD x a := by
  unfold ackD
  show diffS (addS a t) (addS (addS x.first t) x.acked) = _
  rw [add_swapS, diff_movedS]
theorem ack_movedS (x : Sx) (t a : Int) : ackS (mvS t x) (addS a t) = mvS t (ackS x a) := by
  unfold ackS ackO
  rw [ackD_moved]
  show (if (decide (0 < ackD x a) && decide (ackD x a ≤ flightS x)) = true then _ else _) = _
  split <;> rfl
theorem mv_okS {x : Sx} (h : OkS x) (t : Int) : OkS (mvS t x) := ⟨⟨addS_ge _ _, addS_le _ _⟩, h.sent, h.acked, h.fsent, h.room⟩
end Go.Proofs.Ytebflcpoecolbaa
