/-
  bridge.see: what is known when a card was seen. Every row of the call's own of at most sixteen. No condition beyond that.
-/
import Derived.Test.YtecbelnmdimnkaaDlB
import Derived.Test.YtecbelnmdimnkaaDeB
namespace Go.Proofs.Ytecbelnmdimnkaa
open Go.RowKit

theorem wpList_buildA {P : Program} {ops : Array Oper} {rest : List Oper} {o : Oper} {a : Act} {w : World} {Q : Exit → Act → World → Prop} (hg : o.guard = none) (t : TypeId) (parts : Array (Nat × Operand)) (ho : o.op = .build t parts)
    (cells : Array Value) (h : P.built t (parts.map fun (i, x) => (i, a.eval x)).toList = some cells) (k : wpList P ops Q rest (a.put o.dst (.agg cells)) w) : wpList P ops Q (o :: rest) a w :=
  wpList_build hg t parts ho (by rw [h]; rfl) (by rw [h]; exact k)
/-- the last fifteen, and the card -/
def seeP (K : List Ln) (a : Mac) (p : Nat) : List Ln := (keepK K a).drop ((keepK K a).length + 1 - 16) ++ [⟨a, p⟩]
theorem grown_trans {a b c : World} {r : Option Nat} (h : a.grownBy b r) (k : b.grownBy c r) : a.grownBy c r :=
  ⟨k.os.trans h.os, k.tape.trans h.tape, k.output.trans h.output, Nat.le_trans h.size k.size, fun i hi hx => (k.block i (Nat.lt_of_lt_of_le hi h.size) hx).trans (h.block i hi hx)⟩
theorem keepK_le (K : List Ln) (a : Mac) : (keepK K a).length ≤ K.length := List.length_filter_le _ _
theorem seeP_le (K : List Ln) (a : Mac) (p : Nat) : (seeP K a p).length ≤ 16 := by
  simp only [seeP, List.length_append, List.length_drop, List.length_singleton]
  omega

set_option maxRecDepth 100000 in
set_option maxHeartbeats 2000000 in
theorem see_any (v : Value) (K : List Ln) (a : Mac) (p lo : Nat) (w : World) (hown : w.ownsRow lo 58 7 v K.length (lns K)) (hl : K.length ≤ 16) (hlo : lo ≤ w.heap.size) :
    Calls Try.prog 20 #[v, .agg (macA a), .int .i64 (p : Int)] w fun e w' => ∃ v', e = .returned v' ∧ w'.ownsRow lo 58 7 v' (seeP K a p).length (lns (seeP K a p)) ∧ w.grownBy w' v.ownBlock := by
  have HO1 := Lib.hid (ownk_below hown ((Below.refl w.heap.size w).alloc (Nat.le_refl _) (.cells (macA a) 46)) (Nat.le_refl _))
  have HB1 := Lib.hid ((Below.refl lo w).alloc hlo (.cells (macA a) 46))
  have HX1 := Lib.hid (heap_alloc_new w (.cells (macA a) 46))
  have HGA : Hid (w.grownBy (w.alloc (.cells (macA a) 46)) v.ownBlock) := World.grownBy_alloc _ _ _
  have HKL := Lib.hid (Nat.le_trans (keepK_le K a) hl)
  have HL := Lib.hid hl
  have HLO := Lib.hid hlo
  have HLT : Hid (w.heap.size < (w.alloc (.cells (macA a) 46)).heap.size) := by show _ < _; simp
  have hbn : ∀ g, v.ownBlock = some g → g ≠ w.heap.size := fun g hg e => by
    have := (hown.lt g hg).2
    omega
  have HBN := Lib.hid hbn
  obtain ⟨i0, hi0, hz0, hz1, hz2⟩ := info_parts info_ln
  have HI := Lib.hid (And.intro hi0 (And.intro hz0 (And.intro hz1 hz2)))
  clear hown hl hlo hbn hi0 hz0 hz1 hz2
  go_enter Try.func20, Try.ntmps20
  go_wp2_with fail
  generalize w.alloc (.cells (macA a) 46) = w1 at HO1 HB1 HX1 HLT HGA ⊢
  generalize w.heap.size = b at HX1 HLT HBN HLO ⊢
  refine (del7_any v K a b lo w1 HO1.out (Nat.le_trans HL.out (by omega)) HX1.out).mono ?_
  rintro e w2 ⟨v2, rfl, hown2, hgr, hvb⟩
  have HX2 : Hid (w2.heap[b]? = some (.cells (macA a) 46 (0, 0))) := (hgr.block b HLT.out (fun e => HBN.out b e.symm rfl)).trans HX1.out
  have HB2 : Hid (Below lo w w2) := HB1.out.grown hgr (Nat.le_trans HLO.out (Nat.le_of_lt HLT.out)) fun g hg => (HO1.out.lt g hg).1
  have HLT2 : Hid (b < w2.heap.size) := Nat.lt_of_lt_of_le HLT.out hgr.size
  have HGT2 : Hid (w.grownBy w2 v.ownBlock) := grown_trans HGA.out hgr
  have HVB : Hid (v2.ownBlock = v.ownBlock) := hvb
  have HBN2 : Hid (∀ g, v2.ownBlock = some g → g ≠ b) := fun g hg => HBN.out g (by rw [← hvb]; exact hg)
  obtain ⟨m, hm⟩ : ∃ m, (keepK K a).length = m := ⟨_, rfl⟩
  have HM := Lib.hid hm
  rw [hm] at hown2
  have hm16 : m ≤ 16 := by rw [← hm]; exact HKL.out
  have HO2 := Lib.hid hown2
  obtain ⟨A, c, rfl, hnc, hcm, -⟩ := ownk_form hown2
  have hcm2 : c ≤ 9223372036854775807 := by unfold maxLen at hcm; omega
  clear hown2 hgr hvb hm HO1 HB1 HX1 HLT HBN HKL HL hcm HGA
  have HKS : True := trivial
  rcases (show m < 15 ∨ m = 15 ∨ m = 16 by omega) with hc | hc | hc
  · have h1 : (m : Int) + 1 - 16 < 0 := by omega
    go_wp2_with fail
    refine (del_none A m c w2 hnc hcm2).mono ?_
    rintro e w3 ⟨rfl, rfl⟩
    have HX3 := HX2
    have HGT3 := HGT2
    have HVB3 := HVB
    have HO3 := HO2
    have HB3 := HB2
    have HS3 : Hid (w2.heap.size ≤ w2.heap.size) := Nat.le_refl _
    have HM3 := HM
    have HSP : Hid (seeP K a p = keepK K a ++ [⟨a, p⟩]) := by
      show _ = _
      unfold seeP
      rw [HM.out, show m + 1 - 16 = 0 from by omega]
      rfl
    clear h1
    obtain ⟨hi0, hz0, hz1, hz2⟩ := HI.out
    go_wp2_with (first | refine wpList_load_row rfl 46 _ rfl b rfl 46 (macA a) (0, 0) _ HX3.out Try.underlying46 rfl (by kernel_rfl) ?_ | refine wpList_buildA rfl 58 _ rfl (lnA ⟨a, p⟩) (by kernel_rfl) ?_ | refine wpList_build_one rfl 25 58 _ rfl (lnA ⟨a, p⟩) rfl Try.underlying25 7 (by decide) (by decide) (by kernel_rfl) rfl ?_ | (at_builtin; refine wpList_append_elem rfl _ _ 25 rfl lo 58 i0 _ 7 16 Try.underlying25 hi0 hz0 hz1 hz2 rfl (by decide) (.slice A m c) m (lns (keepK K a)) rfl (ownk_below HO3.out ((Below.refl _ _).alloc (Nat.le_refl _) _) (Nat.le_refl _)) w2.heap.size 1 (lnA ⟨a, p⟩) 58 (0, 0) rfl (heap_alloc_new w2 _) rfl (fun u hu => Array.all_eq_true_iff_forall_mem.1 (lnA_one ⟨a, p⟩) u (by simpa using hu)) (by unfold maxLen; omega) (by omega) (by have := HLT2.out; have := HS3.out; have := HLO.out; simp; omega) ?_; intro v6 w6 hown6 hgrow6 _; have HOW6 := Lib.hid hown6; have HGW6 := Lib.hid hgrow6; clear hown6 hgrow6))
    go_ret
    refine ⟨_, rfl, ?_, ?_⟩
    · have := HOW6.out
      rw [show lns (keepK K a) ++ (lnA ⟨a, p⟩).toList = lns (seeP K a p) from by rw [HSP.out, lns_append]; rfl] at this
      rw [show (seeP K a p).length = m + 1 from by rw [HSP.out, List.length_append, HM3.out]; rfl]
      exact this
    · have h6 := HGW6.out
      rw [HVB3.out] at h6
      exact grown_trans (grown_trans HGT3.out (World.grownBy_alloc _ _ _)) h6
  · subst hc
    go_wp2_with fail
    refine (del_none A 15 c w2 hnc hcm2).mono ?_
    rintro e w3 ⟨rfl, rfl⟩
    have HX3 := HX2
    have HGT3 := HGT2
    have HVB3 := HVB
    have HO3 := HO2
    have HB3 := HB2
    have HS3 : Hid (w2.heap.size ≤ w2.heap.size) := Nat.le_refl _
    have HM3 := HM
    have HSP : Hid (seeP K a p = keepK K a ++ [⟨a, p⟩]) := by
      show _ = _
      unfold seeP
      rw [HM.out, show 15 + 1 - 16 = 0 from by omega]
      rfl
    obtain ⟨hi0, hz0, hz1, hz2⟩ := HI.out
    go_wp2_with (first | refine wpList_load_row rfl 46 _ rfl b rfl 46 (macA a) (0, 0) _ HX3.out Try.underlying46 rfl (by kernel_rfl) ?_ | refine wpList_buildA rfl 58 _ rfl (lnA ⟨a, p⟩) (by kernel_rfl) ?_ | refine wpList_build_one rfl 25 58 _ rfl (lnA ⟨a, p⟩) rfl Try.underlying25 7 (by decide) (by decide) (by kernel_rfl) rfl ?_ | (at_builtin; refine wpList_append_elem rfl _ _ 25 rfl lo 58 i0 _ 7 16 Try.underlying25 hi0 hz0 hz1 hz2 rfl (by decide) (.slice A 15 c) 15 (lns (keepK K a)) rfl (ownk_below HO3.out ((Below.refl _ _).alloc (Nat.le_refl _) _) (Nat.le_refl _)) w2.heap.size 1 (lnA ⟨a, p⟩) 58 (0, 0) rfl (heap_alloc_new w2 _) rfl (fun u hu => Array.all_eq_true_iff_forall_mem.1 (lnA_one ⟨a, p⟩) u (by simpa using hu)) (by unfold maxLen; omega) (by omega) (by have := HLT2.out; have := HS3.out; have := HLO.out; simp; omega) ?_; intro v6 w6 hown6 hgrow6 _; have HOW6 := Lib.hid hown6; have HGW6 := Lib.hid hgrow6; clear hown6 hgrow6))
    go_ret
    refine ⟨_, rfl, ?_, ?_⟩
    · have := HOW6.out
      rw [show lns (keepK K a) ++ (lnA ⟨a, p⟩).toList = lns (seeP K a p) from by rw [HSP.out, lns_append]; rfl] at this
      rw [show (seeP K a p).length = 15 + 1 from by rw [HSP.out, List.length_append, HM3.out]; rfl]
      exact this
    · have h6 := HGW6.out
      rw [HVB3.out] at h6
      exact grown_trans (grown_trans HGT3.out (World.grownBy_alloc _ _ _)) h6
  · subst hc
    obtain ⟨g, c', cur, hv, -, -, -, -, -, -⟩ := ownk_some HO2.out (by decide)
    injection hv with hv1 _ hv3
    subst hv1 hv3
    have hxl := HO2.out.1
    go_wp2_with fail
    refine (del_any g 15 c 0 lo (lns (keepK K a)) w2 HO2.out (lns_one _) (by decide) (by decide)).mono ?_
    rintro e w3 ⟨rfl, hown3, hgr3⟩
    have HX3 : Hid (w3.heap[b]? = some (.cells (macA a) 46 (0, 0))) := (hgr3.block b HLT2.out (fun e => HBN2.out b e.symm rfl)).trans HX2.out
    have HO3 : Hid (w3.ownsRow lo 58 7 (.slice (some ⟨g, 0, none⟩) 15 c) 15 (lns ((keepK K a).drop 1))) := by
      have h9 := hown3
      rw [Nat.zero_mul, List.take_zero, List.nil_append, show 0 + 7 = 1 * 7 from rfl, lns_drop] at h9
      exact h9
    have HB3 : Hid (Below lo w w3) := HB2.out.grown hgr3 (Nat.le_trans HLO.out (Nat.le_of_lt HLT2.out)) fun g hg => (HO2.out.lt g hg).1
    have HS3 : Hid (w2.heap.size ≤ w3.heap.size) := hgr3.size
    have HVB3 : Hid ((Value.slice (some ⟨g, 0, none⟩) 15 c).ownBlock = v.ownBlock) := HVB.out
    have HGT3 : Hid (w.grownBy w3 v.ownBlock) := grown_trans HGT2.out (by rw [← HVB3.out]; exact hgr3)
    have HM3 : Hid (((keepK K a).drop 1).length = 15) := by show _ = _; rw [List.length_drop, HM.out]
    have HSP : Hid (seeP K a p = (keepK K a).drop 1 ++ [⟨a, p⟩]) := by
      show _ = _
      unfold seeP
      rw [HM.out]
    clear hown3 hgr3 hxl
    obtain ⟨hi0, hz0, hz1, hz2⟩ := HI.out
    go_wp2_with (first | refine wpList_load_row rfl 46 _ rfl b rfl 46 (macA a) (0, 0) _ HX3.out Try.underlying46 rfl (by kernel_rfl) ?_ | refine wpList_buildA rfl 58 _ rfl (lnA ⟨a, p⟩) (by kernel_rfl) ?_ | refine wpList_build_one rfl 25 58 _ rfl (lnA ⟨a, p⟩) rfl Try.underlying25 7 (by decide) (by decide) (by kernel_rfl) rfl ?_ | (at_builtin; refine wpList_append_elem rfl _ _ 25 rfl lo 58 i0 _ 7 16 Try.underlying25 hi0 hz0 hz1 hz2 rfl (by decide) (.slice (some ⟨g, 0, none⟩) 15 c) 15 (lns ((keepK K a).drop 1)) rfl (ownk_below HO3.out ((Below.refl _ _).alloc (Nat.le_refl _) _) (Nat.le_refl _)) w3.heap.size 1 (lnA ⟨a, p⟩) 58 (0, 0) rfl (heap_alloc_new w3 _) rfl (fun u hu => Array.all_eq_true_iff_forall_mem.1 (lnA_one ⟨a, p⟩) u (by simpa using hu)) (by unfold maxLen; omega) (by omega) (by have := HLT2.out; have := HS3.out; have := HLO.out; simp; omega) ?_; intro v6 w6 hown6 hgrow6 _; have HOW6 := Lib.hid hown6; have HGW6 := Lib.hid hgrow6; clear hown6 hgrow6))
    go_ret
    refine ⟨_, rfl, ?_, ?_⟩
    · have := HOW6.out
      rw [show lns ((keepK K a).drop 1) ++ (lnA ⟨a, p⟩).toList = lns (seeP K a p) from by rw [HSP.out, lns_append]; rfl] at this
      rw [show (seeP K a p).length = 15 + 1 from by rw [HSP.out, List.length_append, HM3.out]; rfl]
      exact this
    · have h6 := HGW6.out
      rw [HVB3.out] at h6
      exact grown_trans (grown_trans HGT3.out (World.grownBy_alloc _ _ _)) h6
end Go.Proofs.Ytecbelnmdimnkaa
