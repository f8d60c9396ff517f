/-
  append to what is left of a row of the call's own behind its first elements: in place, or into a new row. Every row of numbers. No condition.
-/
import Derived.Test.YtdgfhcojmfgimaaRfr
import Derived.Deep.AppendSrc
namespace Go.Proofs.Ytdgfhcojmfgimaa
open Go.RowKit

theorem rv_tight {w : World} {S : Nat → Prop} {v : Value} {d : Dat} (h : Rv w S v d) : Rv w (fun b => S b ∧ b < w.heap.size) v d := by
  induction h with
  | val h => exact .val h
  | row us hl he hA hc hm hr _ ih =>
    refine .row us hl he hA hc hm (fun j u hj => ?_) ih
    obtain ⟨a, e, h1, h2⟩ := hr j u hj
    have := cell_lt h2
    rw [blk_add] at this
    exact ⟨a, e, ⟨h1, this⟩, h2⟩
theorem rvs_tight {w : World} {S : Nat → Prop} {us : List Value} {ds : List Dat} (h : Rvs w S us ds) : Rvs w (fun b => S b ∧ b < w.heap.size) us ds := ⟨h.1, fun j u d h1 h2 => rv_tight (h.2 j u d h1 h2)⟩
theorem rv_below {w w' : World} {S : Nat → Prop} {v : Value} {d : Dat} (h : Rv w S v d) (hb : Below w.heap.size w w') : Rv w' S v d := ((rv_tight h).kept hb (fun _ h => h.2)).wide fun _ h => h.1
theorem rvs_below {w w' : World} {S : Nat → Prop} {us : List Value} {ds : List Dat} (h : Rvs w S us ds) (hb : Below w.heap.size w w') : Rvs w' S us ds := ((rvs_tight h).kept hb (fun _ h => h.2)).wide fun _ h => h.1
theorem rv_mono (S : Nat → Prop) (d : Dat) : Mono (fun v w => Rv w S v d) := fun _ _ _ hb h => rv_below h hb
theorem rv_grown {w w' : World} {S : Nat → Prop} {v : Value} {d : Dat} {row : Option Nat} (h : Rv w S v d) (hg : w.grownBy w' row) (hS : ∀ g, row = some g → ¬ S g) : Rv w' S v d :=
  ((rv_tight h).keep (keep_blocks (S := fun b => S b ∧ b < w.heap.size) fun b hb => hg.block b hb.2 fun e => hS b e.symm hb.1) (fun _ h => h)).wide fun _ h => h.1
theorem rvs_grown {w w' : World} {S : Nat → Prop} {us : List Value} {ds : List Dat} {row : Option Nat} (h : Rvs w S us ds) (hg : w.grownBy w' row) (hS : ∀ g, row = some g → ¬ S g) : Rvs w' S us ds :=
  ⟨h.1, fun j u d h1 h2 => rv_grown (h.2 j u d h1 h2) hg hS⟩
theorem int_parts : ∃ i0, Try.prog.info? 3 = some i0 ∧ i0.zero = some (.int .i64 0) ∧ i0.size = 1 ∧ i0.bytes = 8 := parts_of info_int1
theorem app_off (base n k C g m c : Nat) (A : Option Addr) (l r : List Int) (S : Nat → Prop) (w : World) (ho : w.ownsRow base 3 1 (.slice (some ⟨g, 0, none⟩) n C) n (intsV l)) (hl : l.length = n) (hr : r.length = m) (hrd : RdS w S A (intsV r)) (_hS : ¬ S g) (hn0 : 0 < n) (hk : k ≤ n) (hn : n ≤ 1000) (hm : m ≤ 1000) (hA : A = none → c = 0) (hbase : base ≤ w.heap.size) :
    ∃ v' w', (Builtin.append_ #[31, 31] 31 #[.slice (if C = k then some ⟨g, 0, none⟩ else (some (⟨g, 0, none⟩ : Addr)).map (·.add (k * 1))) (n - k) (C - k), .slice A m c]).run Try.prog w = .ok v' w' ∧ Rv w' (fun b => base ≤ b) v' (intsD (l.drop k ++ r)) ∧ w.grownBy w' (some g) := by
  obtain ⟨i0, hi0, hz0, hz1, hz2⟩ := int_parts
  obtain ⟨cur, hg, hlo, hnc, hcm, hcs, htk⟩ := own_at0 ho hn0
  have hsrc : Src Try.prog i0.size 31 (.slice A m c) m (intsV r) w := by
    rw [hz1]
    rcases A with _ | a
    · have hr0 : r = [] := by
        rcases r with _ | ⟨z, r⟩
        · rfl
        · obtain ⟨a, e, _⟩ := hrd 0 (.int .i64 z) rfl
          cases e
      subst hr0
      obtain rfl : m = 0 := by simpa using hr.symm
      exact Src.ofNil w Try.underlying31 c
    · refine Src.ofSlice w Try.underlying31 a m c (intsV r) (by rw [intsV_length, hr, Nat.mul_one]) (fun j u hu => ?_) (intsV_ones r)
      obtain ⟨a', e, _, hc⟩ := hrd j u hu
      cases e
      exact hc
  obtain ⟨ad, had, had2⟩ : ∃ ad, (if C = k then some (⟨g, 0, none⟩ : Addr) else (some (⟨g, 0, none⟩ : Addr)).map (·.add (k * 1))) = some (⟨g, ad, none⟩ : Addr) ∧ (C = k ∧ ad = 0 ∨ ad = k) := by
    by_cases hCk : C = k
    · exact ⟨0, by rw [if_pos hCk], .inl ⟨hCk, rfl⟩⟩
    · refine ⟨k, ?_, .inr rfl⟩
      rw [if_neg hCk, Option.map_some, Addr.add_mid, Nat.zero_add, Nat.mul_one]
  rw [had]
  have hdl : (intsV l).drop k = intsV (l.drop k) := intsV_drop l k
  have hold : ∀ j u, (intsV (l.drop k))[j]? = some u → w.cell? ⟨g, ad + j, none⟩ = some u := fun j u hu => by
    have hjl := (List.getElem?_eq_some_iff.1 hu).1
    rw [intsV_length, List.length_drop, hl] at hjl
    have hadk : ad = k := by rcases had2 with h | h <;> omega
    subst hadk
    rw [cell_of_row _ _ _ _ _ _ hg]
    rw [← hdl, List.getElem?_drop, ← htk, List.getElem?_take] at hu
    split at hu
    · simpa using hu
    · cases hu
  by_cases hroom : n - k + m ≤ C - k
  · have hfit : ad + (n - k) + m ≤ cur.size := by
      rw [hcs]
      rcases had2 with h | h <;> omega
    obtain ⟨cur2, hcur2⟩ : ∃ cur2 : Array Value, (cur.toList.take (ad + (n - k)) ++ intsV r ++ cur.toList.drop (ad + (n - k) + (intsV r).length)).toArray = cur2 := ⟨_, rfl⟩
    have hst := run_storeCells_at (P := Try.prog) g (ad + (n - k)) 3 (intsV r) 0 cur w hg (by rw [intsV_length, hr]; omega) (intsV_ones r)
    rw [Nat.add_zero, hcur2] at hst
    have hrun : (Builtin.append_ #[31, 31] 31 #[.slice (some ⟨g, ad, none⟩) (n - k) (C - k), .slice A m c]).run Try.prog w = .ok (.slice (some ⟨g, ad, none⟩) (n - k + m) (C - k)) (w.setRow g cur2) := by
      rcases hsrc.kind with ⟨e', hk'⟩ | hk' <;> simp [Builtin.append_, run_underlying Try.underlying31, sizeOf, typeInfo, hi0, hz1, hsrc.len, hroom, Addr.add_lit]
      · have := hsrc.cells
        rw [hz1] at this
        simp [this, hst]
      · have := hsrc.cells
        rw [hz1] at this
        simp [this, hst]
    refine ⟨_, _, hrun, ?_, grown_setRow (World.grownBy.refl _ _) _⟩
    have hrr : RdS (w.setRow g cur2) (fun b => base ≤ b) (some ⟨g, ad, none⟩) (intsV (l.drop k ++ r)) := fun j u hu => by
      refine ⟨_, rfl, hlo, ?_⟩
      rw [intsV_append] at hu
      rw [Addr.add_mid, cell_of_row _ _ _ _ _ _ (setRow_heap w g cur cur2 _ _ hg), ← hcur2]
      have hlt : (cur.toList.take (ad + (n - k))).length = ad + (n - k) := by rw [List.length_take, Array.length_toList]; omega
      by_cases hj : j < n - k
      · rw [List.getElem?_append_left (by rw [intsV_length, List.length_drop, hl]; exact hj)] at hu
        have := hold j u hu
        rw [cell_of_row _ _ _ _ _ _ hg] at this
        rw [List.getElem?_toArray, List.append_assoc, List.getElem?_append_left (by rw [hlt]; omega), List.getElem?_take, if_pos (by omega)]
        simpa using this
      · rw [List.getElem?_append_right (by rw [intsV_length, List.length_drop, hl]; omega), intsV_length, List.length_drop, hl] at hu
        have hjr := (List.getElem?_eq_some_iff.1 hu).1
        rw [List.getElem?_toArray, List.append_assoc, List.getElem?_append_right (by rw [hlt]; omega), hlt, List.getElem?_append_left (by omega), show ad + j - (ad + (n - k)) = j - (n - k) from by omega]
        exact hu
    refine rv_ints.2 ⟨some ⟨g, ad, none⟩, C - k, by rw [List.length_append, List.length_drop, hl, hr], hrr, fun h => by (cases h), by rw [List.length_append, List.length_drop, hl, hr]; exact hroom, by omega⟩
  · have hfc : (Builtin.firstCells i0.size (n - k) (.slice (some ⟨g, ad, none⟩) (n - k) (C - k))).run Try.prog w.drew = .ok (intsV (l.drop k)).toArray w.drew := by
      rw [hz1]
      exact run_firstCells_some w.drew 1 (n - k) ⟨g, ad, none⟩ (n - k) (C - k) (intsV (l.drop k)) (by rw [intsV_length, List.length_drop, hl, Nat.mul_one]) (fun j u hu => by
        rw [Addr.add_mid]
        exact hold j u hu)
    have hrun := run_append_grow_src (P := Try.prog) w 31 31 31 3 i0 _ Try.underlying31 hi0 hz0 (some ⟨g, ad, none⟩) (n - k) (C - k) (intsV (l.drop k)) hfc (.slice A m c) m (intsV r) hsrc (by omega) (by omega) (by rw [hz2]; exact growslice_fits (by omega) (by omega))
    have hgb : w.grownBy (w.drew.alloc (.cells ((intsV (l.drop k) ++ intsV r).toArray ++ Builtin.zeroCells (Value.int .i64 0).cells (grownCap w (n - k + m) (C - k) 3 - (n - k + m))) 3)) (some g) := by
      have := (below_drewN' (Below.refl w.heap.size w) 1).alloc (Nat.le_refl _) (.cells ((intsV (l.drop k) ++ intsV r).toArray ++ Builtin.zeroCells (Value.int .i64 0).cells (grownCap w (n - k + m) (C - k) 3 - (n - k + m))) 3)
      exact ⟨this.os, this.tape, this.output, this.size, fun j hj _ => this.block j hj⟩
    refine ⟨_, _, hrun, ?_, hgb⟩
    have hrr : RdS (w.drew.alloc (.cells ((intsV (l.drop k) ++ intsV r).toArray ++ Builtin.zeroCells (Value.int .i64 0).cells (grownCap w (n - k + m) (C - k) 3 - (n - k + m))) 3)) (fun b => base ≤ b) (some ⟨w.heap.size, 0, none⟩) (intsV (l.drop k ++ r)) := fun j u hu => by
      refine ⟨_, rfl, hbase, ?_⟩
      have hnew : (w.drew.alloc (.cells ((intsV (l.drop k) ++ intsV r).toArray ++ Builtin.zeroCells (Value.int .i64 0).cells (grownCap w (n - k + m) (C - k) 3 - (n - k + m))) 3)).heap[w.heap.size]? = some (.cells ((intsV (l.drop k) ++ intsV r).toArray ++ Builtin.zeroCells (Value.int .i64 0).cells (grownCap w (n - k + m) (C - k) 3 - (n - k + m))) 3) := heap_alloc_new w.drew _
      rw [Addr.add_mid, Nat.zero_add, cell_of_row _ _ _ _ _ _ hnew]
      rw [intsV_append] at hu
      have hjl := (List.getElem?_eq_some_iff.1 hu).1
      rw [Array.getElem?_append_left (by simpa using hjl)]
      simpa using hu
    exact rv_ints.2 ⟨some ⟨w.heap.size, 0, none⟩, _, by rw [List.length_append, List.length_drop, hl, hr], hrr, fun h => by (cases h), by rw [List.length_append, List.length_drop, hl, hr]; exact grownCap_ge w _ _ _, grownCap_le_maxLen w _ _ _ (by unfold maxLen; omega)⟩
end Go.Proofs.Ytdgfhcojmfgimaa
