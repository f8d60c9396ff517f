/-
  The document's ring in memory; more, Len. No condition.
-/
import Derived.Test.YtdbiledmokldjaaAns
namespace Go.Proofs.Ytdbiledmokldjaa
open Go.RowKit

abbrev txt (l : Fr) : Value := .string ⟨l.toArray⟩
def strs (ps : List Fr) : List Value := ps.map txt
theorem strs_length (ps : List Fr) : (strs ps).length = ps.length := by simp [strs]
theorem strs_append (ps qs : List Fr) : strs (ps ++ qs) = strs ps ++ strs qs := by simp [strs]
theorem strs_one (ps : List Fr) : ∀ u ∈ strs ps, u.oneCell' = true := by
  intro u hu
  simp [strs] at hu
  obtain ⟨p, _, rfl⟩ := hu
  rfl
/-- texts that are read behind a slice, in blocks of texts -/
structure SR (w : World) (A : Option Addr) (c : Nat) (ps : List Fr) : Prop where
  rd : Tr w 0 9 A (strs ps)
  nil : A = none → c = 0
  cap : ps.length ≤ c
section
variable {w w' : World} {B c : Nat} {A : Option Addr} {ps : List Fr} {f : Fr}
theorem SR.below (h : SR w A c ps) (hb : Below B w w') (hB : w.heap.size ≤ B) : SR w' A c ps := ⟨h.rd.below hb hB, h.nil, h.cap⟩
theorem SR.other (h : SR w A c ps) {g : Nat} {C : Array Value} {t : TypeId} {fr : Nat × Nat} (hg : w.heap[g]? = some (.cells C t fr)) (hne : t ≠ 9) (hk : ∀ j, j ≠ g → w'.heap[j]? = w.heap[j]?) : SR w' A c ps :=
  ⟨h.rd.keep fun k D _ hD => hk k fun e => by
    subst e
    rw [hg] at hD
    injection hD with hD
    injection hD with _ h2
    exact hne h2, h.nil, h.cap⟩
theorem SR.own {base n : Nat} (h : w.ownsRow base 9 1 (.slice A n c) n (strs ps)) : SR w A c ps := by
  have hl := h.1
  rw [strs_length, Nat.mul_one] at hl
  exact ⟨(Tr.own h).wide (Nat.zero_le _), own_none h, by rw [hl]; exact (own_cap h).1⟩
theorem SR.none : SR w none 0 [] := ⟨Tr.nil, fun _ => rfl, Nat.le_refl _⟩
theorem SR.at_ (h : SR w A c ps) {i : Nat} (hi' : ps[i]? = some f) : ∃ ad, A = some ad ∧ w.cell? (ad.add i) = some (txt f) := by
  obtain ⟨ad, e, _, _, hc⟩ := h.rd.rd i (txt f) (by simp [strs, hi'])
  exact ⟨ad, e, hc⟩
theorem SR.head (h : SR w A c (f :: ps)) : ∃ ad, A = some ad ∧ w.cell? ad = some (txt f) := by
  obtain ⟨ad, e, hc⟩ := h.at_ (i := 0) rfl
  exact ⟨ad, e, by simpa [Addr.add] using hc⟩
theorem SR.tail (h : SR w A c (f :: ps)) : SR w (if c = 1 then A else A.map (·.add 1)) (c - 1) ps := by
  have hc := h.cap
  rw [List.length_cons] at hc
  split
  · rename_i hc1
    obtain rfl : ps = [] := List.length_eq_zero_iff.1 (by omega)
    exact ⟨Tr.nil, fun e => by rw [h.nil e], by simp⟩
  · refine ⟨?_, fun e => ?_, by omega⟩
    · have := h.rd.sub 1 ps.length
      rwa [show ((strs (f :: ps)).drop 1).take ps.length = strs ps from List.take_of_length_le (by simp [strs])] at this
    · have : A = Option.none := by simpa using e
      rw [h.nil this]
end
/-- the document's ring, in memory -/
def rfC (n k : Nat) (A1 A2 A3 : Option Addr) (l1 c1 l2 c2 l3 c3 : Nat) : Array Value := #[.int .i64 (n : Int), .slice A1 l1 c1, .slice A2 l2 c2, .slice A3 l3 c3, .int .i64 (k : Int)]
theorem rfC_ones (n k : Nat) (A1 A2 A3 : Option Addr) (l1 c1 l2 c2 l3 c3 : Nat) : (rfC n k A1 A2 A3 l1 c1 l2 c2 l3 c3).all (·.oneCell') = true :=
  all_one (cs := [.int .i64 (n : Int), .slice A1 l1 c1, .slice A2 l2 c2, .slice A3 l3 c3, .int .i64 (k : Int)]) (by intro u hu; simp at hu; rcases hu with rfl | rfl | rfl | rfl | rfl <;> rfl)
def Rf (x : Rn) (w : World) (v : Value) : Prop :=
  ∃ A1 A2 A3 c1 c2 c3, v = .agg (rfC x.n x.p A1 A2 A3 x.P.length c1 x.T.length c2 x.D.length c3) ∧ SR w A1 c1 x.P ∧ SR w A2 c2 x.T ∧ SR w A3 c3 x.D
theorem Rf.below {B : Nat} {x : Rn} {w w' : World} {v : Value} (h : Rf x w v) (hb : Below B w w') (hB : w.heap.size ≤ B := by first | exact Nat.le_refl _ | simp) : Rf x w' v := by
  obtain ⟨A1, A2, A3, c1, c2, c3, e, h1, h2, h3⟩ := h
  exact ⟨A1, A2, A3, c1, c2, c3, e, h1.below hb hB, h2.below hb hB, h3.below hb hB⟩
theorem Rf.other {x : Rn} {w w' : World} {v : Value} (h : Rf x w v) {g : Nat} {C : Array Value} {t : TypeId} {fr : Nat × Nat} (hg : w.heap[g]? = some (.cells C t fr)) (hne : t ≠ 9) (hk : ∀ j, j ≠ g → w'.heap[j]? = w.heap[j]?) : Rf x w' v := by
  obtain ⟨A1, A2, A3, c1, c2, c3, e, h1, h2, h3⟩ := h
  exact ⟨A1, A2, A3, c1, c2, c3, e, h1.other hg hne hk, h2.other hg hne hk, h3.other hg hne hk⟩

set_option maxHeartbeats 1000000 in
theorem more_any (A : Option Addr) (c n : Nat) (ps : List Fr) (f : Fr) (w : World) (h : SR w A c ps) (hl : ps.length = n) (hm : n ≤ 100000) :
    Calls Try.prog 31 #[.slice A n c, txt f] w fun e w' => ∃ A' c', e = .returned (.slice A' (n + 1) c') ∧ SR w' A' c' (ps ++ [f]) ∧ Below w.heap.size w w' := by
  obtain ⟨i0, hi0, hz0, hz1, hz2⟩ := info_parts info_st
  have hz3 : (Value.string ⟨#[]⟩).cells.size = 1 := rfl
  have HSR := Lib.hid h
  have HL := Lib.hid hl
  have HOW : Hid ((w.alloc (.cells #[] 9)).ownsRow w.heap.size 9 1 (.slice (some ⟨w.heap.size, 0, none⟩) 0 0) 0 []) := own_empty w 9 1
  have HRX := Lib.hid ((h.rd.alloc (.cells #[] 9)).rd)
  clear h hl
  go_enter Try.func31, Try.ntmps31
  go_upto_region 2 with (at_builtin; refine wpList_append_rdk (P := Try.prog) rfl _ _ 30 rfl w.heap.size 9 i0 _ 1 16 Try.underlying30 hi0 hz0 hz1 hz2 hz3 (by omega) _ 0 [] rfl HOW.out A n c (strs ps) rfl HSR.out.nil (by rw [strs_length, HL.out, Nat.mul_one]) HRX.out (strs_one ps) (by unfold maxLen; omega) (by omega) (by simp) ?_; intro v2 w2 hown2 hgrow2 _)
  have HO2 : Hid ((w2.alloc (.cells #[txt f] 9)).ownsRow w.heap.size 9 1 v2 n (strs ps)) := ownk_below (by simpa using hown2) ((Below.refl w2.heap.size w2).alloc (Nat.le_refl _) _) (Nat.le_refl _)
  have HB2 : Hid (Below w.heap.size w (w2.alloc (.cells #[txt f] 9))) := (((Below.refl w.heap.size w).alloc (Nat.le_refl _) _).grown hgrow2 (by simp) fun g hg => (HOW.out.lt g hg).1).alloc (by have := hgrow2.size; simp at this; omega) _
  have HR2 : Hid (Rd (w2.alloc (.cells #[txt f] 9)) w2.heap.size (w2.heap.size + 1) (some ⟨w2.heap.size, 0, none⟩) [txt f]) := rd_new w2 [txt f] 9 (0, 0)
  have HZ2 : Hid (w.heap.size ≤ w2.heap.size) := by have := hgrow2.size; simp at this; show _ ≤ _; omega
  clear hown2 hgrow2
  go_wp2_with (at_builtin; refine wpList_append_rdk (P := Try.prog) rfl _ _ 30 rfl w.heap.size 9 i0 _ 1 16 Try.underlying30 hi0 hz0 hz1 hz2 hz3 (by omega) v2 n (strs ps) rfl HO2.out (some ⟨w2.heap.size, 0, none⟩) 1 1 [txt f] rfl (fun h => by cases h) rfl HR2.out (by intro u hu; simp at hu; subst hu; rfl) (by unfold maxLen; omega) (by omega) (by have := HZ2.out; simp; omega) ?_; intro v3 w3 hown3 hgrow3 _)
  have hb3 : Below w.heap.size w w3 := HB2.out.grown hgrow3 (by have := HZ2.out; simp; omega) fun g hg => (HO2.out.lt g hg).1
  obtain ⟨A', c', rfl, -⟩ := ownk_form hown3
  have HO3 : Hid (SR w3 A' c' (ps ++ [f])) := SR.own (by rw [strs_append]; exact hown3)
  have HB3 := Lib.hid hb3
  clear hown3 hgrow3 hb3
  go_wp2
  go_ret
  exact ⟨_, _, rfl, HO3.out, HB3.out⟩
end Go.Proofs.Ytdbiledmokldjaa
