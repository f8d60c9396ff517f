/-
  AddrAgain: any two addresses with a port and any two cards.
-/
import Derived.Test.YtbahkilfcfbolaaDoorAgainS
import Derived.Test.YtbahkilfcfbolaaDoorAgainI
import Derived.Test.YtbahkilfcfbolaaDoorAgainP
namespace Go.Proofs.YtbahkilfcfbolaaDoor
open Go.RowKit

theorem again_walk (a b l : List UInt8) (p q : Nat) (w : World) (hR : Ready w) (ha : a.length = 4) (hb : b.length = 4) (hl : l.length = 12) (hp : p < 65536) (hq : q < 65536) :
    Calls Tryd.prog 5 #[.agg (cells a ++ [Value.int .u16 p]).toArray, .agg (cells b ++ [Value.int .u16 q]).toArray, .agg (cells l).toArray] w fun e w' => e = .returned (.bool true) ∧ Below w.heap.size w w' := by
  obtain ⟨x0, x1, x2, x3, rfl⟩ := cells4_of a ha
  obtain ⟨y0, y1, y2, y3, rfl⟩ := cells4_of b hb
  obtain ⟨u0, u1, u2, u3, u4, u5, v0, v1, v2, v3, v4, v5, rfl⟩ : ∃ u0 u1 u2 u3 u4 u5 v0 v1 v2 v3 v4 v5 : UInt8, l = [u0, u1, u2, u3, u4, u5, v0, v1, v2, v3, v4, v5] := by
    match l, hl with
    | [u0, u1, u2, u3, u4, u5, v0, v1, v2, v3, v4, v5], _ => exact ⟨u0, u1, u2, u3, u4, u5, v0, v1, v2, v3, v4, v5, rfl⟩
  by_cases hx : (x0 == y0 && (x1 == y1 && (x2 == y2 && x3 == y3))) = true
  · simp only [Bool.and_eq_true, beq_iff_eq] at hx
    obtain ⟨rfl, rfl, rfl, rfl⟩ := hx
    by_cases hpq : p = q
    · subst hpq
      by_cases hm : (u0 == v0 && (u1 == v1 && (u2 == v2 && (u3 == v3 && (u4 == v4 && u5 == v5))))) = true
      · simp only [Bool.and_eq_true, beq_iff_eq] at hm
        obtain ⟨rfl, rfl, rfl, rfl, rfl, rfl⟩ := hm
        exact again_sl x0 x1 x2 x3 u0 u1 u2 u3 u4 u5 p w hR hp
      · exact again_su x0 x1 x2 x3 u0 u1 u2 u3 u4 u5 v0 v1 v2 v3 v4 v5 p w hR hp (by simpa using hm)
    · by_cases hm : (u0 == v0 && (u1 == v1 && (u2 == v2 && (u3 == v3 && (u4 == v4 && u5 == v5))))) = true
      · simp only [Bool.and_eq_true, beq_iff_eq] at hm
        obtain ⟨rfl, rfl, rfl, rfl, rfl, rfl⟩ := hm
        exact again_pl x0 x1 x2 x3 u0 u1 u2 u3 u4 u5 p q w hR hp hq hpq
      · exact again_pu x0 x1 x2 x3 u0 u1 u2 u3 u4 u5 v0 v1 v2 v3 v4 v5 p q w hR hp hq hpq (by simpa using hm)
  · have hne : (x0 == y0 && (x1 == y1 && (x2 == y2 && x3 == y3))) = false := by simpa using hx
    by_cases hm : (u0 == v0 && (u1 == v1 && (u2 == v2 && (u3 == v3 && (u4 == v4 && u5 == v5))))) = true
    · simp only [Bool.and_eq_true, beq_iff_eq] at hm
      obtain ⟨rfl, rfl, rfl, rfl, rfl, rfl⟩ := hm
      exact again_il x0 x1 x2 x3 y0 y1 y2 y3 u0 u1 u2 u3 u4 u5 p q w hR hp hq hne
    · exact again_iu x0 x1 x2 x3 y0 y1 y2 y3 u0 u1 u2 u3 u4 u5 v0 v1 v2 v3 v4 v5 p q w hR hp hq hne (by simpa using hm)
end Go.Proofs.YtbahkilfcfbolaaDoor
