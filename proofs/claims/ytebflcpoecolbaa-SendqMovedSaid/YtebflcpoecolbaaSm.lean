/-
  Of what goes: what was sent is the beginning of what was written; what each act makes of it. Plain mathematics. No condition.
-/
import Derived.Test.YtebflcpoecolbaaSp
namespace Go.Proofs.Ytebflcpoecolbaa
open Go.RowKit

/-- what was sent -/
def sentS (x : Sx) : List UInt8 := x.all.take x.sent
theorem sent_len {x : Sx} (h : OkS x) : (sentS x).length = x.sent := by
  have := h.sent
  unfold sentS
  rw [List.length_take]
  omega
theorem next_free {x : Sx} (h : OkS x) {u v : Int} (ho : nextO x u v = true) : x.fsent = false := by
  cases hf : x.fsent
  · rfl
  · have h1 := (h.fsent hf).2
    have hn : nextN x u v = 0 := by unfold nextN; omega
    unfold nextO nextE at ho
    rw [hn, hf] at ho
    simp at ho
theorem next_sent {x : Sx} (_h : OkS x) (u v : Int) : sentS (nextS x u v) = sentS x ++ nextB x u v := by
  show x.all.take (x.sent + nextN x u v) = x.all.take x.sent ++ (x.all.drop x.sent).take (nextN x u v)
  rw [List.take_add]
theorem next_data {x : Sx} (h : OkS x) (u v : Int) : ∃ a l, nextP x u v = spcD a l ∧ l.length ≤ 256 ∧ sentS (nextS x u v) = sentS x ++ l ∧ (nextO x u v = true → a = addS x.first (x.sent : Nat)) := by
  cases ho : nextO x u v
  · refine ⟨0, [], by unfold nextP; rw [ho]; rfl, by simp, ?_, fun h => by cases h⟩
    rw [next_sent h]
    have : nextN x u v = 0 := by
      unfold nextO at ho
      exact Decidable.not_not.1 (of_decide_eq_false (Bool.or_eq_false_iff.1 ho).1)
    unfold nextB
    rw [this]
    rfl
  · refine ⟨_, nextB x u v, by unfold nextP; rw [ho]; rfl, ?_, next_sent h u v, fun _ => rfl⟩
    have h1 := h.room
    have h2 := h.from_le
    have h3 := h.sent
    unfold nextB
    rw [List.length_take, List.length_drop]
    omega
theorem write_sent {x : Sx} (h : OkS x) (s : List UInt8) : sentS (writeS x s) = sentS x := by
  show (x.all ++ s.take (writeN x s)).take x.sent = x.all.take x.sent
  rw [List.take_append_of_le_length h.sent]
theorem ack_sent (x : Sx) (a : Int) : sentS (ackS x a) = sentS x ∧ (ackS x a).all = x.all ∧ (ackS x a).fsent = x.fsent ∧ (ackS x a).first = x.first ∧ ((ackS x a).acked : Int) = (x.acked : Int) + ackN x a := by
  unfold ackS ackN
  split
  · rename_i ho
    unfold ackO at ho
    rw [Bool.and_eq_true] at ho
    have h1 := of_decide_eq_true ho.1
    refine ⟨rfl, rfl, rfl, rfl, ?_⟩
    show ((x.acked + (ackD x a).toNat : Nat) : Int) = _
    omega
  · exact ⟨rfl, rfl, rfl, rfl, by simp⟩
theorem again_data {x : Sx} (h : OkS x) (v : Int) : ∃ a l, againP x v = spcD a l ∧ l.length ≤ 256 ∧ (againO x v = true → a = addS x.first (x.acked : Nat) ∧ x.acked ≤ x.sent ∧ (againE x v = true → x.fsent = true) ∧ x.acked + l.length ≤ x.sent ∧ ((sentS x).drop x.acked).take l.length = l) := by
  cases ho : againO x v
  · exact ⟨0, [], by unfold againP; rw [ho]; rfl, by simp, fun h => by cases h⟩
  · have hE : againE x v = true → x.fsent = true ∧ x.acked ≤ x.all.length := fun he => by
      unfold againE at he
      rw [Bool.and_eq_true, Bool.and_eq_true] at he
      exact ⟨he.1.1, of_decide_eq_true he.1.2⟩
    have hl := againT_le h v
    have hs := h.sent
    have h1 := h.acked
    have hle : x.acked ≤ x.sent := by
      refine Decidable.byContradiction fun hn => ?_
      have hF : againF x = x.sent := by unfold againF; omega
      unfold againO at ho
      rw [Bool.or_eq_true] at ho
      rcases ho with ho | ho
      · have := of_decide_eq_true ho
        omega
      · have h2 := hE ho
        rw [if_pos h2.1] at h1
        have h3 := (h.fsent h2.1).2
        omega
    have hF : againF x = x.acked := by unfold againF; omega
    have hBl : (againB x v).length = againT x v - x.acked := by
      unfold againB
      rw [List.length_take, List.length_drop, hF]
      omega
    have hr := h.room
    have hf := h.from_le
    refine ⟨_, againB x v, by unfold againP; rw [ho]; rfl, ?_, fun _ => ⟨by rw [hF], hle, fun he => (hE he).1, by rw [hBl]; omega, ?_⟩⟩
    · rw [hBl]
      unfold fromS at hr hf
      omega
    · rw [hBl]
      unfold againB sentS
      rw [hF, List.drop_take, List.take_take]
      congr 1
      omega
/-- how much is left to go: bytes, and the end -/
def leftS (x : Sx) : Nat := (x.all.length - x.sent) + (if x.fin = true ∧ x.fsent = false then 1 else 0)
theorem next_big {x : Sx} (h : OkS x) : nextN x 1048576 64 = min (x.all.length - x.sent) 64 := by
  have h1 := h.room
  have h2 := h.from_le
  have h3 := h.sent
  unfold fromS at h1 h2
  unfold nextN
  omega
theorem left_done {x : Sx} (h : OkS x) (hn : nextO x 1048576 64 = false) : x.sent = x.all.length ∧ x.fsent = x.fin := by
  have h3 := h.sent
  unfold nextO at hn
  rw [Bool.or_eq_false_iff] at hn
  have h0 : nextN x 1048576 64 = 0 := Decidable.not_not.1 (of_decide_eq_false hn.1)
  have hb := next_big h
  rw [h0] at hb
  have hs : x.sent = x.all.length := by omega
  refine ⟨hs, ?_⟩
  have he := hn.2
  unfold nextE at he
  rw [h0, decide_eq_true (show x.sent + 0 = x.all.length by omega)] at he
  cases hf : x.fsent
  · rw [hf] at he
    simpa using he.symm
  · exact ((h.fsent hf).1).symm
theorem left_less {x : Sx} (h : OkS x) (hn : nextO x 1048576 64 = true) : leftS (nextS x 1048576 64) < leftS x := by
  have hfr := next_free h hn
  have hb := next_big h
  have h3 := h.sent
  unfold leftS
  show (x.all.length - (x.sent + nextN x 1048576 64)) + (if x.fin = true ∧ (x.fsent || nextE x 1048576 64) = false then 1 else 0) < _
  rw [hfr, Bool.false_or]
  unfold nextO at hn
  rw [Bool.or_eq_true] at hn
  have hp : (if x.fin = true ∧ nextE x 1048576 64 = false then 1 else 0) ≤ (if x.fin = true ∧ false = false then 1 else 0 : Nat) := by
    split
    · rename_i hh
      rw [if_pos ⟨hh.1, rfl⟩]
      exact Nat.le_refl _
    · exact Nat.zero_le _
  by_cases h0 : nextN x 1048576 64 = 0
  · have he : nextE x 1048576 64 = true := by
      rcases hn with hn | hn
      · exact absurd h0 (of_decide_eq_true hn)
      · exact hn
    have hfin : x.fin = true := by
      unfold nextE at he
      rw [Bool.and_eq_true, Bool.and_eq_true] at he
      exact he.1.1
    rw [h0, if_neg (by rw [he]; simp), if_pos ⟨hfin, rfl⟩]
    omega
  · omega
theorem left_le (x : Sx) : leftS x ≤ x.all.length + 1 := by
  unfold leftS
  split <;> omega
theorem ext_part (s ld : List UInt8) (ak sn nP : Nat) (h1 : s.length = sn) (hd : (s.drop ak).take nP = ld) : ((⟨s.toArray⟩ : ByteArray).extract ak sn).extract 0 nP = ⟨ld.toArray⟩ := by
  apply ByteArray.ext
  subst h1
  simp only [ByteArray.data_extract, List.extract_toArray]
  congr 1
  rw [← hd]
  simp only [List.extract, List.drop_zero, Nat.sub_zero]
  rw [List.take_of_length_le (l := List.drop ak s) (by rw [List.length_drop]; exact Nat.le_refl _)]
theorem ext_size (b : ByteArray) (i n : Nat) (h : b.size = n) (_hi : i ≤ n) : (b.extract i n).size = n - i := by
  simp [ByteArray.size_extract, h]
end Go.Proofs.Ytebflcpoecolbaa
