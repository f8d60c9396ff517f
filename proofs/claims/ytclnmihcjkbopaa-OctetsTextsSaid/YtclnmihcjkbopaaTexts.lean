/-
  OctetsTexts returns true for every bytes and every text, and turns nothing that was there.
-/
import Derived.Test.YtclnmihcjkbopaaLives
import Derived.Test.YtclnmihcjkbopaaRefText
namespace Go.Proofs.Ytclnmihcjkbopaa
open Go.RowKit

theorem dig_all : ∀ q : Fin 16, isDig (dig q.val).toNat = true ∧ dv (dig q.val).toNat = q.val := by decide +kernel
theorem dig_is (q : Nat) (h : q < 16) : isDig (dig q).toNat = true := (dig_all ⟨q, h⟩).1
theorem dig_dv (q : Nat) (h : q < 16) : dv (dig q).toNat = q := (dig_all ⟨q, h⟩).2
theorem hexL_cons (c : UInt8) (r : List UInt8) : hexL (c :: r) = dig (c.toNat / 16) :: dig (c.toNat % 16) :: hexL r := rfl
theorem hexL_all (l : List UInt8) : ((hexL l).all fun c => isDig c.toNat) = true := by
  induction l with
  | nil => rfl
  | cons c r ih =>
    have := c.toNat_lt
    rw [hexL_cons, List.all_cons, List.all_cons, ih, dig_is _ (by omega), dig_is _ (by omega)]
    rfl
theorem hexL_get (l : List UInt8) : ∀ j (h : j < l.length), (hexL l).getD (2 * j) 0 = dig (l[j].toNat / 16) ∧ (hexL l).getD (2 * j + 1) 0 = dig (l[j].toNat % 16) := by
  induction l with
  | nil => intro j h; simp at h
  | cons c r ih =>
    intro j h
    rw [hexL_cons]
    cases j with
    | zero => exact ⟨rfl, rfl⟩
    | succ j =>
      have := ih j (by simpa using h)
      rw [show 2 * (j + 1) = 2 * j + 1 + 1 from by omega, show 2 * j + 1 + 1 + 1 = (2 * j + 1) + 1 + 1 from rfl]
      simp only [List.getD_cons_succ, List.getElem_cons_succ]
      exact this
theorem unhex_hex (l : List UInt8) : unhexS (hexL l) = (l, 0) := by
  unfold unhexS
  rw [if_pos (hexL_all l), hexL_length, if_neg (by omega), show 2 * l.length / 2 = l.length from by omega]
  congr 1
  refine List.ext_getElem (by simp [unhexK]) fun j h1 h2 => ?_
  have hc := l[j].toNat_lt
  obtain ⟨e1, e2⟩ := hexL_get l j h2
  simp only [unhexK, List.getElem_map, List.getElem_range, hexPair]
  rw [e1, e2, dig_dv _ (by omega), dig_dv _ (by omega), show 16 * (l[j].toNat / 16) + l[j].toNat % 16 = l[j].toNat from by omega]
  exact UInt8.ofNat_toNat

theorem texts_big (A : Option Addr) (L c : Nat) (s : ByteArray) (w : World) (hm : L ≤ maxLen) (hs : s.size ≤ maxLen) (h : 300 < L ∨ 300 < s.size) :
    Calls Try.prog 6 #[.slice A L c, .string s] w fun e w' => e = .returned (.bool true) ∧ Below w.heap.size w w' := by
  unfold maxLen at hm hs
  by_cases h1 : 300 < L
  · clear h
    go_enter Try.func6, Try.ntmps6
    go_wp2_with fail
    refine (lives_any _).mono ?_
    rintro e w1 ⟨rfl, hb1⟩
    go_wp2_with fail
    refine (lives_any _).mono ?_
    rintro e w2 ⟨rfl, hb2⟩
    go_wp2
    go_ret
    exact ⟨rfl, hb1.trans (hb2.mono hb1.size)⟩
  · have h2 : 300 < s.size := by omega
    clear h
    go_enter Try.func6, Try.ntmps6
    go_wp2_with fail
    refine (lives_any _).mono ?_
    rintro e w1 ⟨rfl, hb1⟩
    go_wp2_with fail
    refine (lives_any _).mono ?_
    rintro e w2 ⟨rfl, hb2⟩
    go_wp2
    go_ret
    exact ⟨rfl, hb1.trans (hb2.mono hb1.size)⟩

set_option maxHeartbeats 1000000 in
theorem texts_walk (A : Option Addr) (l s : List UInt8) (c : Nat) (w : World) (hl : l.length ≤ 300) (hs : s.length ≤ 300) (hrd : Rd w 0 w.heap.size A (cells l)) :
    Calls Try.prog 6 #[.slice A l.length c, .string ⟨s.toArray⟩] w fun e w' => e = .returned (.bool true) ∧ Below w.heap.size w w' := by
  obtain ⟨r, hr⟩ : ∃ r, unhexS s = r := ⟨_, rfl⟩
  have HR := Lib.hid hr
  clear hr
  go_enter Try.func6, Try.ntmps6
  go_wp2_with fail
  refine (lives_any _).mono ?_
  rintro e w1 ⟨rfl, hb1⟩
  go_wp2_with fail
  refine (hex_any A l c 0 w.heap.size w1 (hrd.below hb1 (Nat.le_refl _)) hb1.size (by omega)).mono ?_
  rintro e w2 ⟨rfl, hb2⟩
  have hB2 : Below w.heap.size w w2 := hb1.trans (hb2.mono hb1.size)
  clear hb1 hb2
  go_wp2_with fail
  have hu := unhex_any (hexL l) w2 (by rw [hexL_length]; omega)
  rw [unhex_hex] at hu
  refine hu.mono ?_
  rintro e w3 ⟨A3, c3, rfl, hrd3, hb3⟩
  clear hu
  have hB3 : Below w.heap.size w w3 := hB2.trans (hb3.mono hB2.size)
  go_wp2_with fail
  have hu := unhex_any s w3 (by omega)
  rw [HR.out] at hu
  refine hu.mono ?_
  rintro e w4 ⟨A4, c4, rfl, hrd4, hb4⟩
  clear hu
  have hB4 : Below w.heap.size w w4 := hB3.trans (hb4.mono hB3.size)
  go_wp2_with fail
  have hu := refunhex_any s w4 (by omega)
  rw [HR.out] at hu
  refine hu.mono ?_
  rintro e w5 ⟨rfl, hb5⟩
  clear hu
  have hB5 : Below w.heap.size w w5 := hB4.trans (hb5.mono hB4.size)
  have ht : (convert 23 9 (.slice A l.length c)).run Try.prog w5 = .ok (txt l) w5 := run_text (P := Try.prog) w5 23 9 5 c Try.underlying23 Try.underlying5 Try.underlying9 (hrd.below hB5 (Nat.le_refl _))
  go_wp2_with fail
  refine (refhex_any l w5 (by omega)).mono ?_
  rintro e w6 ⟨rfl, hb6⟩
  clear ht
  have hB6 : Below w.heap.size w w6 := hB5.trans (hb6.mono hB5.size)
  have ht : (convert 23 9 (.slice A l.length c)).run Try.prog w6 = .ok (txt l) w6 := run_text (P := Try.prog) w6 23 9 5 c Try.underlying23 Try.underlying5 Try.underlying9 (hrd.below hB6 (Nat.le_refl _))
  have ht3 : (convert 23 9 (.slice A3 l.length c3)).run Try.prog w6 = .ok (txt l) w6 := run_text (P := Try.prog) w6 23 9 5 c3 Try.underlying23 Try.underlying5 Try.underlying9
    (((hrd3.below hb4 (Nat.le_refl _)).below hb5 hb4.size).below hb6 (Nat.le_trans hb4.size hb5.size))
  have ht4 : (convert 23 9 (.slice A4 r.1.length c4)).run Try.prog w6 = .ok (txt r.1) w6 := run_text (P := Try.prog) w6 23 9 5 c4 Try.underlying23 Try.underlying5 Try.underlying9
    ((hrd4.below hb5 (Nat.le_refl _)).below hb6 hb5.size)
  clear hrd hrd3 hrd4 hb3 hb4 hb5 hb6 hB2 hB3 hB4 hB5 hl hs
  go_wp2
  go_ret
  exact ⟨rfl, hB6⟩
end Go.Proofs.Ytclnmihcjkbopaa
