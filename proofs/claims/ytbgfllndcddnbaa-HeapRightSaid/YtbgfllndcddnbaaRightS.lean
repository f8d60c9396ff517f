/-
  A heap among a law's arguments, as the laws' frames tell of it. No condition.
-/
import Derived.Test.YtbgfllndcddnbaaRightL
import Derived.Test.YtbgfllndcddnbaaOpsL
namespace Go.Proofs.Ytbgfllndcddnbaa
open Go.RowKit

theorem sl_form {w : World} {s : Sh} {cs : List Value} (h : (Sh.sl s).ok w cs) : ∃ A len cap, cs = [.slice A len cap] ∧ len ≤ cap ∧ cap ≤ 140737488351232 := by
  rcases h with rfl | ⟨ad, len, cap, rfl, h1, h2, _⟩
  · exact ⟨none, 0, 0, rfl, Nat.le_refl _, Nat.zero_le _⟩
  · exact ⟨some ad, len, cap, rfl, h1, h2⟩
theorem bks_of {w : World} {A : Option Addr} {len cap : Nat} (h : (Sh.sl (.cat (.num .i64) (.cat (.num .i64) .non))).ok w [.slice A len cap]) : ∃ Z : List (Int × Int), Z.length = len ∧ Rd w 0 w.heap.size A (bksZ Z) ∧ ∀ b ∈ Z, I64 b.1 ∧ I64 b.2 := by
  rcases h with h | ⟨ad, len', cap', h, h1, h2, h3⟩
  · simp at h
    obtain ⟨rfl, rfl, rfl⟩ := h
    exact ⟨[], rfl, Rd.nil, by simp⟩
  · simp at h
    obtain ⟨rfl, rfl, rfl⟩ := h
    have h4 : ∀ i, i < len → ∃ x y, w.cell? (ad.add (i * 2)) = some (.int .i64 x) ∧ w.cell? (ad.add (i * 2 + 1)) = some (.int .i64 y) ∧ I64 x ∧ I64 y := fun i hi => by
      obtain ⟨c, _, hc, c1, c2, rfl, ⟨k, rfl, hk⟩, c3, c4, rfl, ⟨a, rfl, ha⟩, rfl⟩ := h3 i hi
      exact ⟨k, a, hc 0 _ rfl, hc 1 _ rfl, i64_of hk, i64_of ha⟩
    have h5 : ∀ n, n ≤ len → ∃ Z : List (Int × Int), Z.length = n ∧ Rd w 0 w.heap.size (some ad) (bksZ Z) ∧ ∀ b ∈ Z, I64 b.1 ∧ I64 b.2 := by
      intro n
      induction n with
      | zero => intro _; exact ⟨[], rfl, Rd.nil, by simp⟩
      | succ n ih =>
        intro hn
        obtain ⟨Z, hl, hc, hz⟩ := ih (by omega)
        obtain ⟨x, y, e0, e1, hx, hy⟩ := h4 n (by omega)
        refine ⟨Z ++ [(x, y)], by simp [hl], ?_, fun b hb => ?_⟩
        · have e : bksZ (Z ++ [(x, y)]) = bksZ Z ++ [.int .i64 x, .int .i64 y] := by simp [bksZ, bkz]
          rw [e]
          intro i u hu
          rcases Nat.lt_or_ge i (bksZ Z).length with hi | hi
          · rw [List.getElem?_append_left hi] at hu
            exact hc i u hu
          · rw [List.getElem?_append_right hi] at hu
            rw [bksZ_length, hl] at hi hu
            have hlt0 := cell_lt e0
            rw [blk_add] at hlt0
            obtain ⟨j, rfl⟩ : ∃ j, i = n * 2 + j := ⟨i - n * 2, by omega⟩
            rw [Nat.add_sub_cancel_left] at hu
            match j, hu with
            | 0, hu => simp at hu; subst hu; exact ⟨ad, rfl, Nat.zero_le _, hlt0, e0⟩
            | 1, hu => simp at hu; subst hu; exact ⟨ad, rfl, Nat.zero_le _, hlt0, e1⟩
            | j + 2, hu => simp at hu
        · rcases List.mem_append.1 hb with hb | hb
          · exact hz b hb
          · simp at hb
            subst hb
            exact ⟨hx, hy⟩
    exact h5 len (Nat.le_refl _)
theorem heap_of_ok {w : World} {cs : List Value} (h : (Sh.cat (.sl (.num .u8)) (.cat (.sl (.cat (.num .i64) (.cat (.num .i64) .non))) (.cat (.sl .bit) .non))).ok w cs) :
    ∃ A1 nb c1 A2 nk c2 A3 nd c3 Z, cs = [.slice A1 nb c1, .slice A2 nk c2, .slice A3 nd c3] ∧ Rd w 0 w.heap.size A2 (bksZ Z) ∧ Z.length = nk ∧ (∀ b ∈ Z, I64 b.1 ∧ I64 b.2) ∧ nb ≤ maxLen ∧ nk ≤ maxLen ∧ nd ≤ maxLen := by
  obtain ⟨k1, k2, rfl, h1, k3, k4, rfl, h2, k5, k6, rfl, h3, rfl⟩ := h
  obtain ⟨A1, nb, c1, rfl, a1, a2⟩ := sl_form h1
  obtain ⟨A2, nk, c2, rfl, b1, b2⟩ := sl_form h2
  obtain ⟨A3, nd, c3, rfl, d1, d2⟩ := sl_form h3
  obtain ⟨Z, hl, hr, hz⟩ := bks_of h2
  exact ⟨A1, nb, c1, A2, nk, c2, A3, nd, c3, Z, rfl, hr, hl, hz, by unfold maxLen; omega, by unfold maxLen; omega, by unfold maxLen; omega⟩
theorem right_ok {cs : List Value} (w : World) (h : (Sh.cat (.sl (.num .u8)) (.cat (.sl (.cat (.num .i64) (.cat (.num .i64) .non))) (.cat (.sl .bit) .non))).ok w cs) :
    Calls Try.prog 6 #[.agg cs.toArray] w fun e w' => e = .returned (.bool true) ∧ Below w.heap.size w w' := by
  obtain ⟨A1, nb, c1, A2, nk, c2, A3, nd, c3, Z, rfl, h1, h2, h3, h4, h5, h6⟩ := heap_of_ok h
  exact rightlaw_any A1 A2 A3 nb nk nd c1 c2 c3 Z 0 w.heap.size w h1 (Nat.le_refl _) h2 h3 h4 h5 h6
end Go.Proofs.Ytbgfllndcddnbaa
