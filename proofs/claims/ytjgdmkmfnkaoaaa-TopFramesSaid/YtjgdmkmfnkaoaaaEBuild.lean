/-
  ether.Build(f): ErrLong of more than 200 bytes of body, else a frame's bytes in a row of the call's own. Every frame that can be read.
-/
import Derived.Test.YtjgdmkmfnkaoaaaEFr
import Derived.StillTailTactics
import Derived.Deep.DeepCutAuto
namespace Go.Proofs.Ytjgdmkmfnkaoaaa.E
open Go.RowKit

/-- the parts of a frame, concatenated -/
theorem concat4 (ad : Addr) (v0 v1 v2 v3 : Value) (lo hi lo2 hi2 : Nat) (p0 p1 p2 p3 : List UInt8) (w : World) (h : Rd w lo hi (some ad) [v0, v1, v2, v3]) (hb : Bits w lo2 hi2 [v0, v1, v2, v3] [p0, p1, p2, p3]) (hhi : hi ≤ w.heap.size) (hhi2 : hi2 ≤ w.heap.size)
    (hl : p0.length + p1.length + p2.length + p3.length ≤ 1000000000) :
    Calls Try.prog 28 #[.slice (some ad) 4 4] w fun e w' => ∃ A c', e = .returned (.slice A (p0 ++ p1 ++ p2 ++ p3).length c') ∧ OwnB w' w.heap.size (.slice A (p0 ++ p1 ++ p2 ++ p3).length c') (p0 ++ p1 ++ p2 ++ p3) ∧ Below w.heap.size w w' := by
  have e : [p0, p1, p2, p3].flatten = p0 ++ p1 ++ p2 ++ p3 := by simp
  have := concat_any ad 4 lo hi lo2 hi2 [v0, v1, v2, v3] [p0, p1, p2, p3] w h hb hhi hhi2 (by rw [e]; simp; omega) (by simp)
  rw [e] at this
  exact this

set_option maxRecDepth 100000 in
set_option maxHeartbeats 1000000 in
theorem build_long (cs : Array Value) (A : Option Addr) (n c : Nat) (w : World) (h13 : cs[13]? = some (.slice A n c)) (hn : 200 < n) (hm : n ≤ 9223372036854775807) :
    Calls Try.prog 23 #[.agg cs] w fun e w' => e = .returned (.tuple #[.slice none 0 0, .int .i64 4]) ∧ Below w.heap.size w w' := by
  have HB := Lib.hid ((Below.refl w.heap.size w).alloc (Nat.le_refl _) (.cells cs 67))
  go_enter Try.func23, Try.ntmps23
  go_wp2
  go_ret2
  exact ⟨rfl, HB.out⟩

theorem put_kind (t : Nat) (w : World) (h : t < 65536) :
    Calls Try.prog 49 #[.int .u64 (IntKind.u64.wrap t), .int .i64 2] w fun e w' => ∃ A c, e = .returned (.tuple #[.slice A 2 c, .int .i64 0]) ∧ (Rd w' w.heap.size w'.heap.size A (cells (putL t 2)) ∧ A ≠ none) ∧ Below w.heap.size w w' := by
  have := put_any t 2 w (by omega)
  rw [put_two h] at this
  rw [IntWalk.u64_in (t : Int) ⟨by omega, by omega⟩]
  refine this.mono ?_
  rintro e w' ⟨A, c, rfl, hr, hb⟩
  refine ⟨A, c, by simp only [putL_length], ⟨hr, ?_⟩, hb⟩
  intro hA
  subst hA
  obtain ⟨ad, e, _⟩ := hr.byte (k := 0) (by simp [putL_length])
  cases e

set_option maxRecDepth 100000 in
set_option maxHeartbeats 2000000 in
theorem build_fits (cs : Array Value) (f : Fr) (w : World) (lo hi : Nat) (A : Option Addr) (c : Nat) (he : cs = (frC f (.slice A f.b.length c)).toArray) (hok : f.ok) (hrd : Rd w lo hi A (cells f.b)) (hA : A = none → c = 0) (hhi : hi ≤ w.heap.size) (hn : ¬ 200 < f.b.length) :
    Calls Try.prog 23 #[.agg cs] w fun e w' => ∃ A' c', e = .returned (.tuple #[.slice A' f.bytes.length c', .int .i64 0]) ∧ OwnB w' w.heap.size (.slice A' f.bytes.length c') f.bytes ∧ Below w.heap.size w w' := by
  obtain ⟨d, s, t, b⟩ := f
  obtain ⟨hd, hs, ht⟩ := hok
  simp only at hd hs ht hrd hn he
  have hsz : (cells d).length = 6 ∧ (cells s).length = 6 := by simp [cells_length, hd, hs]
  have h12 : cs[12]? = some (.int .u16 t) := by subst he; simp [frC, hsz.1, hsz.2]
  have h13 : cs[13]? = some (.slice A b.length c) := by subst he; simp [frC, hsz.1, hsz.2]
  have HD : Hid (∀ (k : Nat) u, (cells d)[k]? = some u → cs[0 + k]? = some u) := by
    intro k u hu
    have hk := (List.getElem?_eq_some_iff.1 hu).1
    subst he
    rw [Nat.zero_add]
    simp only [frC, List.getElem?_toArray]
    rw [List.append_assoc, List.getElem?_append_left hk]
    exact hu
  have HS : Hid (∀ (k : Nat) u, (cells s)[k]? = some u → cs[6 + k]? = some u) := by
    intro k u hu
    have hk := (List.getElem?_eq_some_iff.1 hu).1
    subst he
    simp only [frC, List.getElem?_toArray]
    rw [List.append_assoc, List.getElem?_append_right (by rw [hsz.1]; omega), hsz.1, show 6 + k - 6 = k from by omega, List.getElem?_append_left hk]
    exact hu
  have HT := Lib.hid ht
  have HLD := Lib.hid hd
  have HLS := Lib.hid hs
  have HAN := Lib.hid hA
  obtain ⟨n, hbn⟩ : ∃ n, b.length = n := ⟨_, rfl⟩
  rw [hbn] at h13 hn
  have HBN := Lib.hid hbn
  have hn2 : n ≤ 200 := by omega
  clear hn
  have HHI := Lib.hid hhi
  clear hhi
  have HFB : Hid ((⟨d, s, t, b⟩ : Fr).bytes = d ++ s ++ putL t 2 ++ b) := rfl
  have HB0 := Lib.hid ((Below.refl w.heap.size w).alloc (Nat.le_refl _) (.cells cs 67))
  have HG0 := Lib.hid (heap_alloc_new w (.cells cs 67))
  have HR0 := Lib.hid (hrd.alloc HHI.out (.cells cs 67))
  clear he hsz ht hd hs hA hbn hrd
  have hw0 : (w.alloc (.cells cs 67)).heap.size = w.heap.size + 1 := by simp
  have HW0 := Lib.hid hw0
  clear hw0
  go_enter Try.func23, Try.ntmps23
  go_wp2_with fail
  refine (put_kind t _ HT.out).mono ?_
  rintro e w1 ⟨A1, c1, rfl, ⟨hr1, hA1⟩, hb1⟩
  have HB1 := Lib.hid (HB0.out.trans (hb1.mono HB0.out.size))
  have HG1 := Lib.hid ((hb1.block _ (row_lt HG0.out)).trans HG0.out)
  have hc13 : w1.cell? ⟨w.heap.size, 13, none⟩ = some (.slice A n c) := by rw [cell_of_row _ _ _ _ _ _ HG1.out]; exact h13
  have HRB := Lib.hid ((HR0.out.below hb1 (by rw [HW0.out]; have := HHI.out; omega)))
  have HK1 := Lib.hid hr1
  have HZ1 : Hid (w1.heap.size ≤ w1.drew.heap.size) := Nat.le_refl _
  have HA1 := Lib.hid hA1
  have HS1 : Hid (w.heap.size + 1 ≤ w1.heap.size) := by show _ ≤ _; have := hb1.size; rw [HW0.out] at this; exact this
  clear hb1 hr1 hA1
  go_wp2_with fail
  go_still_tail 7, (by kernel_rfl)
  change wpList _ _ _ _ _ w1.drew
  have HB2 : Hid (Below w.heap.size w w1.drew) := HB1.out.drew
  have HG2 : Hid (w1.drew.heap[w.heap.size]? = some (.cells cs 67)) := HG1.out
  have HRB2 := Lib.hid (HRB.out.drew)
  have HK2 := Lib.hid (HK1.out.drew)
  have HS2 : Hid (w.heap.size + 1 ≤ w1.drew.heap.size) := HS1.out
  clear hc13 HB1 HG1 HRB HS1 HK1
  generalize w1.drew = w2 at HB2 HG2 HRB2 HK2 HS2 HZ1 ⊢
  have HC : Hid (Calls Try.prog 28 #[.slice (some ⟨w2.heap.size, 0, none⟩) 4 4] (w2.alloc (.cells #[.slice (some ⟨w.heap.size, 0, none⟩) 6 6, .slice (some ⟨w.heap.size, 6, none⟩) 6 6, .slice A1 2 c1, .slice A n c] 24))
      fun e w' => ∃ A' c', e = .returned (.slice A' (⟨d, s, t, b⟩ : Fr).bytes.length c') ∧ OwnB w' (w2.heap.size + 1) (.slice A' (⟨d, s, t, b⟩ : Fr).bytes.length c') (⟨d, s, t, b⟩ : Fr).bytes ∧ Below (w2.heap.size + 1) (w2.alloc (.cells #[.slice (some ⟨w.heap.size, 0, none⟩) 6 6, .slice (some ⟨w.heap.size, 6, none⟩) 6 6, .slice A1 2 c1, .slice A n c] 24)) w') := by
    have hn1 := rd_new w2 [.slice (some ⟨w.heap.size, 0, none⟩) 6 6, .slice (some ⟨w.heap.size, 6, none⟩) 6 6, .slice A1 2 c1, .slice A n c] 24 (0, 0)
    have hz3 : (w2.alloc (.cells #[.slice (some ⟨w.heap.size, 0, none⟩) 6 6, .slice (some ⟨w.heap.size, 6, none⟩) 6 6, .slice A1 2 c1, .slice A n c] 24)).heap.size = w2.heap.size + 1 := by simp
    have hsz2 := HB2.out.size
    have hs2 := HS2.out
    have hhi := HHI.out
    have rd : ∀ o xs, (∀ k u, xs[k]? = some u → cs[o + k]? = some u) → Rd w2 0 w2.heap.size (some ⟨w.heap.size, o, none⟩) xs := fun o xs h => (rd_mid HG2.out h).wide (Nat.zero_le _) hs2
    have hbits : Bits w2 0 w2.heap.size [.slice (some ⟨w.heap.size, 0, none⟩) d.length 6, .slice (some ⟨w.heap.size, 6, none⟩) s.length 6, .slice A1 (putL t 2).length c1, .slice A b.length c] [d, s, putL t 2, b] :=
      .cons (rd 0 _ HD.out) (fun h => by cases h) (.cons (rd 6 _ HS.out) (fun h => by cases h) (.cons (HK2.out.wide (Nat.zero_le _) HZ1.out) (fun h => absurd h HA1.out) (.cons (HRB2.out.wide (Nat.zero_le _) (by omega)) HAN.out .nil)))
    rw [HLD.out, HLS.out, putL_length, HBN.out] at hbits
    have hb3 := hbits.alloc (Nat.le_refl _) (.cells #[.slice (some ⟨w.heap.size, 0, none⟩) 6 6, .slice (some ⟨w.heap.size, 6, none⟩) 6 6, .slice A1 2 c1, .slice A n c] 24)
    have := concat4 ⟨w2.heap.size, 0, none⟩ _ _ _ _ _ _ 0 w2.heap.size d s (putL t 2) b _ hn1 hb3 (by rw [hz3]; exact Nat.le_refl _) (by rw [hz3]; omega) (by rw [HLD.out, HLS.out, putL_length, HBN.out]; omega)
    rw [hz3] at this
    exact this
  go_wp2_with fail
  refine HC.out.mono ?_
  rintro e w3 ⟨A3, c3, rfl, ho3, hb3⟩
  have HO3 : Hid (OwnB w3 w.heap.size (.slice A3 (⟨d, s, t, b⟩ : Fr).bytes.length c3) (⟨d, s, t, b⟩ : Fr).bytes) := own_base ho3 (by have := HS2.out; omega)
  have HB3 : Hid (Below w.heap.size w w3) := (HB2.out.alloc HB2.out.size _).trans (hb3.mono (by have := HS2.out; omega))
  clear ho3 hb3
  go_wp2
  go_ret2
  exact ⟨A3, c3, rfl, HO3.out, HB3.out⟩

/-- ether.Build, all of it -/
theorem build_any (cs : Array Value) (f : Fr) (w : World) (lo hi : Nat) (h : FrV w lo hi cs f) (hhi : hi ≤ w.heap.size) :
    Calls Try.prog 23 #[.agg cs] w (OwnPost w (buildS f)) := by
  obtain ⟨A, c, he, hok, hrd, hlc, hcm, hA⟩ := h
  by_cases hb : 200 < f.b.length
  · have e1 : buildS f = ([], 4) := by unfold buildS; rw [if_pos hb]
    have h13 : cs[13]? = some (.slice A f.b.length c) := by subst he; simp [frC, cells_length, hok.1, hok.2.1]
    refine (build_long cs A f.b.length c w h13 hb (by unfold maxLen at hcm; omega)).mono ?_
    rintro e w' ⟨rfl, hb'⟩
    exact own_none e1 hb'
  · have e1 : buildS f = (f.bytes, 0) := by unfold buildS; rw [if_neg hb]
    rw [e1]
    exact build_fits cs f w lo hi A c he hok hrd hA hhi hb
end Go.Proofs.Ytjgdmkmfnkaoaaa.E
