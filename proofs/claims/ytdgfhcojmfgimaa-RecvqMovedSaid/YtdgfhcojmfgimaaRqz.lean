/-
  The stream's rounds: a piece of it, and what is read behind it. No condition.
-/
import Derived.Test.YtdgfhcojmfgimaaRqs
import Derived.Test.YtdgfhcojmfgimaaRqf
namespace Go.Proofs.Ytdgfhcojmfgimaa
open Go.RowKit

def pieceX (s : List UInt8) (a b : Nat) : List UInt8 := (s.drop a).take (b - a)
theorem piece_len {s : List UInt8} {a b : Nat} (hab : a ≤ b) (hb : b ≤ s.length) : (pieceX s a b).length = b - a := by
  unfold pieceX
  rw [List.length_take, List.length_drop]
  omega
theorem piece_get {s : List UInt8} {a b : Nat} (hab : a ≤ b) (hb : b ≤ s.length) : ∀ (i : Nat), i < (pieceX s a b).length → (pieceX s a b)[i]? = s[a + i]? := fun i hi => by
  rw [piece_len hab hb] at hi
  unfold pieceX
  rw [List.getElem?_take_of_lt hi, List.getElem?_drop]
theorem str_piece {s : List UInt8} {n : Int} {r p a b : Nat} {x : Rx} (h : Str s n r p x) (hs : s.length ≤ 600) (hab : a ≤ b) (hb : b ≤ s.length) :
    ∃ p', p ≤ p' ∧ Str s n r p' (acceptX x (addS n a) (pieceX s a b) (decide (b = s.length))) ∧
      (x.done = false → a ≤ p → min b (p + (256 - (p - r))) ≤ p') ∧
      (x.done = false → a ≤ p → b = s.length → s.length - p ≤ 256 - (p - r) → (acceptX x (addS n a) (pieceX s a b) (decide (b = s.length))).done = true) := by
  have hl := piece_len hab hb
  have he : a + (pieceX s a b).length = b := by omega
  obtain ⟨p', h1, h2, h3, h4⟩ := str_accept (D := pieceX s a b) (a := a) h hs (by omega) (piece_get hab hb)
  rw [he] at h2 h3 h4
  exact ⟨p', h1, h2, h3, h4⟩
/-- once all is read, and the end is known -/
theorem str_ended {s : List UInt8} {n : Int} {r p : Nat} {x : Rx} (h : Str s n r p x) (he : (x.done && x.data.isEmpty) = true) : r = s.length := by
  rw [Bool.and_eq_true] at he
  have hp := h.all he.1
  have hl := str_len h
  have hd : x.data = [] := by simpa using he.2
  rw [hd] at hl
  have := h.rp
  simp at hl
  omega
/-- how far the rounds at the end have come -/
def RR (i p : Nat) (x : Rx) : Prop := i = 0 ∨ (x.data = [] ∧ (x.done = true ∨ 100 * (i - 1) ≤ p))
theorem str_round {s : List UInt8} {n : Int} {r p i : Nat} {x : Rx} (h : Str s n r p x) (hs : s.length ≤ 600) (hR : RR i p x) {T : Nat} (hT : T = min s.length (r + 100)) :
    ∃ p', Str s n p' p' (readX (acceptX x (addS n r) (pieceX s r T) (decide (T = s.length))) 1000) ∧ RR (i + 1) p' (readX (acceptX x (addS n r) (pieceX s r T) (decide (T = s.length))) 1000) ∧
      s.take r ++ (acceptX x (addS n r) (pieceX s r T) (decide (T = s.length))).data.take (cutX (acceptX x (addS n r) (pieceX s r T) (decide (T = s.length))) 1000) = s.take p' := by
  have hrp := h.rp
  have hle := h.le
  obtain ⟨p', h1, h2, h3, h4⟩ := str_piece (a := r) (b := T) h hs (by omega) (by omega)
  obtain ⟨y, hy⟩ : ∃ y, acceptX x (addS n r) (pieceX s r T) (decide (T = s.length)) = y := ⟨_, rfl⟩
  have hys : x.done = true → y.done = true := fun hd => by
    rw [← hy]
    unfold acceptX
    rw [if_pos hd]
    exact hd
  rw [hy] at h2 h4 ⊢
  have hyl := str_len h2
  have hyd := h2.ok.data
  have hyr := h2.rp
  have hc : cutX y 1000 = p' - r := by unfold cutX; rw [hyl]; omega
  obtain ⟨k1, k2⟩ := str_read h2 1000
  rw [hc, show r + (p' - r) = p' from by omega] at k1
  refine ⟨p', k1, ?_, ?_⟩
  · have e1 : (readX y 1000).data = [] := by
      have := str_len k1
      rw [Nat.sub_self] at this
      exact List.length_eq_zero_iff.1 this
    refine .inr ⟨e1, ?_⟩
    show y.done = true ∨ _
    by_cases hxd : x.done = true
    · exact .inl (hys hxd)
    · have hxd : x.done = false := by simpa using hxd
      rcases hR with rfl | ⟨hd, hR⟩
      · right
        omega
      · have hR : 100 * (i - 1) ≤ p := hR.resolve_left (by rw [hxd]; decide)
        have hrp2 : p = r := by
          have := str_len h
          rw [hd] at this
          simp at this
          omega
        by_cases hTL : T = s.length
        · left
          exact h4 hxd (by omega) hTL (by omega)
        · right
          have := h3 hxd (by omega)
          omega
  · rw [hc, show r + (p' - r) = p' from by omega] at k2
    rw [hc]
    exact k2
theorem str_end {s : List UInt8} {n : Int} {r p : Nat} {x : Rx} (h : Str s n r p x) {i : Nat} (hR : RR i p x) (hi : s.length / 100 + 3 < i) : x.done = true ∧ x.data = [] ∧ r = s.length ∧ x.next = addS n (s.length + 1) := by
  have hle := h.le
  rcases hR with rfl | ⟨hd, hR⟩
  · omega
  · have hxd : x.done = true := by
      rcases hR with h1 | h1
      · exact h1
      · omega
    have hp := h.all hxd
    have hl := str_len h
    rw [hd] at hl
    have hrp := h.rp
    simp at hl
    have hn := h.next
    rw [if_pos hxd, hp] at hn
    exact ⟨hxd, hd, by omega, hn⟩
/-- a part of a row of bytes -/
theorem part_bytes {w : World} {S : Nat → Prop} {A : Option Addr} {n c a b : Nat} {l : List UInt8} (h : Rv w S (.slice A n c) (bytesD l)) (hn : l.length = n) (hab : a ≤ b) (hb : b ≤ n) : Rv w S (.slice (if c = a then A else A.map (·.add (a * 1))) (b - a) (c - a)) (bytesD (pieceX l a b)) := by
  subst hn
  obtain ⟨A', c', e, h1, h2, h3, h4⟩ := rv_bytes.1 h
  injection e with e1 _ e3
  subst e1 e3
  have hl := piece_len hab hb
  refine rv_bytes.2 ⟨(if c = a then A else A.map (·.add (a * 1))), c - a, by rw [hl], fun j u hj => ?_, fun hA => ?_, by omega, by omega⟩
  · have hjl : j < b - a := by
      have := (List.getElem?_eq_some_iff.1 hj).1
      rw [cells_length, hl] at this
      exact this
    have hj2 : (cells l)[a + j]? = some u := by
      rw [← hj]
      unfold cells
      rw [List.getElem?_map, List.getElem?_map, piece_get hab hb j (by omega)]
    obtain ⟨ad, rfl, hS, hc⟩ := h1 (a + j) u hj2
    rw [if_neg (by omega)]
    exact ⟨ad.add (a * 1), rfl, by rw [blk_add]; exact hS, by rw [Nat.mul_one, add_twice]; exact hc⟩
  · by_cases hca : c = a
    · omega
    · rw [if_neg hca] at hA
      cases A with
      | none =>
        have := h2 rfl
        omega
      | some ad => cases hA
/-! ### what is cut out of a stream -/
structure Cu where
  a : Int
  b : Int
  r : Int
def cuA (o : Cu) : Array Value := #[.int .i64 o.a, .int .i64 o.b, .int .i64 o.r]
theorem cuE : El cuA 3 := ⟨fun _ => rfl, fun a => by simp [cuA, Value.oneCell']⟩
theorem cus_of {w : World} {A : Option Addr} {len cap : Nat} (h : (Sh.sl (.cat (.num .i64) (.cat (.num .i64) (.cat (.num .i64) .non)))).ok w [.slice A len cap]) : ∃ T : List Cu, T.length = len ∧ SlT cuA w (.slice A len cap) T ∧ (∀ t ∈ T, I64 t.a ∧ I64 t.b ∧ I64 t.r) ∧ len ≤ 140737488351232 :=
  sl_of (s := .cat (.num .i64) (.cat (.num .i64) (.cat (.num .i64) .non))) (Pr := fun t : Cu => I64 t.a ∧ I64 t.b ∧ I64 t.r) cuE (by decide) rfl (fun cs h => by
    obtain ⟨c1, c2, rfl, ⟨k, rfl, hk⟩, c3, c4, rfl, ⟨a, rfl, ha⟩, c5, c6, rfl, ⟨b, rfl, hb⟩, rfl⟩ := h
    exact ⟨⟨k, a, b⟩, rfl, i64_of hk, i64_of ha, i64_of hb⟩) h
end Go.Proofs.Ytdgfhcojmfgimaa
