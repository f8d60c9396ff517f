/-
  Two bytes copied to a place in a row of bytes. No condition.
-/
import Derived.Test.YtjgdmkmfnkaoaaaBytes
namespace Go.Proofs.Ytjgdmkmfnkaoaaa
open Go.RowKit

theorem copy_twoK {w : World} {g L c5 c6 S lo hi K : Nat} {A : Option Addr} {cur : Array Value} (hr : Rd w lo hi A (cells (two S))) (hg : w.heap[g]? = some (.cells cur 5 (0, 0))) (hL : K + 2 ≤ L) (hf : K + 2 ≤ cur.size) (ty : TypeId) :
    (Builtin.copy_ #[24, 24] ty #[.slice (some ⟨g, K, none⟩) (L - K) (c5 - K), .slice A (two S).length c6]).run Try.prog w = .ok (goInt 2) (w.setRow g (splice cur.toList K (cells (two S))).toArray) := by
  obtain ⟨ad, rfl, hsrc⟩ := copy_src hr (by rw [two_length]; decide)
  have hl : (cells (two S)).length = 2 := by rw [cells_length, two_length]
  have h := run_copy_row (P := Try.prog) w 24 24 ty 5 g K (L - K) (c5 - K) ad (two S).length c6 cur 5 (cells (two S)) Try.underlying24 (by kernel_rfl) hg (by rw [hl, two_length]; exact (Nat.min_eq_left (by omega)).symm) hsrc (by rw [hl]; omega) (cells_one _)
  rw [h, hl, List.append_assoc]
  simp only [splice, hl]
  rfl
theorem splice_takeK (K : Nat) {cur : List Value} {L : Nat} {hd z rest : List UInt8} (x : List Value) (h : cur.take L = cells (hd ++ (z ++ rest))) (hL : (hd ++ (z ++ rest)).length = L) (h10 : hd.length = K) (hz : z.length = x.length) : (splice cur K x).take L = cells hd ++ (x ++ cells rest) := by
  have e : cur = cells hd ++ (cells z ++ cells rest) ++ cur.drop L := by
    have := (List.take_append_drop L cur).symm
    rw [h, cells_append, cells_append] at this
    exact this
  have k1 : (cells hd).length = K := by rw [cells_length, h10]
  have k2 : (cells z).length = x.length := by rw [cells_length, hz]
  have k3 : L = K + (x.length + (cells rest).length) := by rw [← hL, cells_length]; simp [h10, hz]
  generalize cur.drop L = tl at e
  unfold splice
  have d1 : cur.take K = cells hd := by rw [e, List.append_assoc, List.take_left' k1]
  have d2 : cur.drop (K + x.length) = cells rest ++ tl := by
    rw [e, ← List.drop_drop, List.append_assoc, List.drop_left' k1, List.append_assoc, List.drop_left' k2]
  rw [d1, d2, show cells hd ++ (x ++ (cells rest ++ tl)) = (cells hd ++ (x ++ cells rest)) ++ tl from by simp [List.append_assoc]]
  exact List.take_left' (by simp [k1]; omega)
end Go.Proofs.Ytjgdmkmfnkaoaaa
