/-
  Words for variables and rows, of no one layer: rows of the call's own, cells of a block, stores into blocks of another type, endings that hand structs back. No condition.
-/
import Derived.Test.YtebflcpoecolbaaRelyG
import Derived.Test.YtebflcpoecolbaaRelyL
import Derived.Test.YtebflcpoecolbaaRelyQ
import Derived.Test.YtebflcpoecolbaaRow
import Derived.Laws.ResultCell
import Derived.Deep.DeepCutAuto
import Derived.StillTailTactics
import Derived.WalkMore
import Derived.Deep.OwnRows
namespace Go.Proofs.Ytebflcpoecolbaa
open Go.RowKit

/-- a row that a call owns -/
def OwnR (base : Nat) (e : TypeId) (k n : Nat) (xs : List Value) : Pred := fun v w => w.ownsRow base e k v n xs
theorem ownr_mono (base : Nat) (e : TypeId) (k n : Nat) (xs : List Value) : Mono (OwnR base e k n xs) := fun _ _ _ hb h => ownk_below h hb (Nat.le_refl _)
theorem ownk_rd {w : World} {base k : Nat} {e : TypeId} {A : Option Addr} {n c : Nat} {xs : List Value} (h : w.ownsRow base e k (.slice A n c) n xs) : Rd w base w.heap.size A xs := (Tr.own h).rd

/-- a store into a block of another type -/
theorem ownk_other {w : World} {base k : Nat} {e t : TypeId} {v : Value} {n : Nat} {xs : List Value} (h : w.ownsRow base e k v n xs) {g : Nat} {C : Array Value} {fr : Nat × Nat} (hg : w.heap[g]? = some (.cells C t fr)) (hne : t ≠ e) {w' : World}
    (hk : ∀ j, j ≠ g → w'.heap[j]? = w.heap[j]?) : w'.ownsRow base e k v n xs := by
  refine ⟨h.1, ?_⟩
  rcases h.2 with h | ⟨g', cap, cur, rfl, h1, h2, h3⟩
  · exact .inl h
  · refine .inr ⟨g', cap, cur, rfl, h1, (hk g' fun e => ?_).trans h2, h3⟩
    subst e
    rw [hg] at h2
    injection h2 with h2
    injection h2 with _ h2
    exact hne h2
theorem three_cells {w : World} {b : Nat} {v0 v1 v2 : Value} {t : TypeId} {fr : Nat × Nat} (h : w.heap[b]? = some (.cells #[v0, v1, v2] t fr)) :
    w.cell? ⟨b, 0, none⟩ = some v0 ∧ w.cell? ⟨b, 1, none⟩ = some v1 ∧ w.cell? ⟨b, 2, none⟩ = some v2 := by
  refine ⟨?_, ?_, ?_⟩ <;> (rw [cell_of_row _ _ _ _ _ _ h]; rfl)
theorem two_cells {w : World} {b : Nat} {v0 v1 : Value} {t : TypeId} {fr : Nat × Nat} (h : w.heap[b]? = some (.cells #[v0, v1] t fr)) :
    w.cell? ⟨b, 0, none⟩ = some v0 ∧ w.cell? ⟨b, 1, none⟩ = some v1 := by
  refine ⟨?_, ?_⟩ <;> (rw [cell_of_row _ _ _ _ _ _ h]; rfl)
theorem one_cells {w : World} {b : Nat} {v0 : Value} {t : TypeId} {fr : Nat × Nat} (h : w.heap[b]? = some (.cells #[v0] t fr)) : w.cell? ⟨b, 0, none⟩ = some v0 := by
  rw [cell_of_row _ _ _ _ _ _ h]; rfl
theorem ownk_one {w : World} {base k : Nat} {e : TypeId} {v : Value} {n : Nat} {xs : List Value} (h : w.ownsRow base e k v n xs) : v.oneCell' = true := by
  obtain ⟨A, c, rfl, _⟩ := ownk_form h
  rfl
theorem old_below {w w' : World} {b B : Nat} {o : Obj} (h : w.heap[b]? = some o) (hb : Below B w w') (hB : b < B) : w'.heap[b]? = some o := (hb.block _ hB).trans h
theorem row_lt {w : World} {b : Nat} {o : Obj} (h : w.heap[b]? = some o) : b < w.heap.size := (Array.getElem?_eq_some_iff.1 h).1
theorem old_alloc {w : World} {b : Nat} {o : Obj} (h : w.heap[b]? = some o) (o2 : Obj) : (w.alloc o2).heap[b]? = some o := (Below.heap_alloc _ _ _ (row_lt h)).trans h
theorem setRow_cells (w : World) (g : Nat) (cs : Array Value) : ∀ j, j ≠ g → (w.setRow g cs).heap[j]? = w.heap[j]? := fun j hj => setRow_other w g j cs hj
theorem below_setRow {B : Nat} {w w1 : World} (h : Below B w w1) {g : Nat} (hg : B ≤ g) (cs : Array Value) : Below B w (w1.setRow g cs) :=
  ⟨h.os, h.tape, h.output, by simp [World.setRow]; exact h.size, fun k hk => (setRow_other w1 g k cs (by omega)).trans (h.block k hk)⟩
theorem ret_one {P : Program} {fn : Func} {R : Ending → World → Prop} {a : Act} {w : World} {p : Tmp} {ty : TypeId} {g : Nat} {cs : Array Value} {t : TypeId} {fr : Nat × Nat} {d : TypeDesc} (h : fn.results = #[.cell p ty]) (hp : a.tmps.getD p undef = .pointer (some ⟨g, 0, none⟩))
    (hg : w.heap[g]? = some (.cells cs t fr)) (hu : P.underlying ty = some d) (hd : d.isRow = true) (hi : (P.info? ty).map (·.size) = some cs.size) (hdf : a.defers = []) (hR : R (.returned (.agg cs)) w) : bodyPost P fn R .ret a w := by
  refine bodyPost_ret (v := .agg cs) ?_ hdf hR
  exact results_cell_row h a.tmps w g t cs fr d hp hg hu (by cases d <;> first | rfl | cases hd) hi
theorem ret_two {P : Program} {fn : Func} {R : Ending → World → Prop} {a : Act} {w : World} {p u : Tmp} {ty : TypeId} {g : Nat} {cs : Array Value} {t : TypeId} {fr : Nat × Nat} {d : TypeDesc} (h : fn.results = #[.cell p ty, .tmp u]) (hp : a.tmps.getD p undef = .pointer (some ⟨g, 0, none⟩))
    (hg : w.heap[g]? = some (.cells cs t fr)) (hu : P.underlying ty = some d) (hd : d.isRow = true) (hi : (P.info? ty).map (·.size) = some cs.size) (hdf : a.defers = []) (hR : R (.returned (.tuple #[.agg cs, a.tmps.getD u undef])) w) : bodyPost P fn R .ret a w := by
  refine bodyPost_ret (v := .tuple #[.agg cs, a.tmps.getD u undef]) ?_ hdf hR
  have hp' : a.tmps[p]?.getD undef = .pointer (some ⟨g, 0, none⟩) := by simpa using hp
  simp [results, h, hp', asAddr, run_loadVar_row w g t ty cs fr d hg hu (by cases d <;> first | rfl | cases hd) hi]
theorem ret_three {P : Program} {fn : Func} {R : Ending → World → Prop} {a : Act} {w : World} {p u u2 : Tmp} {ty : TypeId} {g : Nat} {cs : Array Value} {t : TypeId} {fr : Nat × Nat} {d : TypeDesc} (h : fn.results = #[.cell p ty, .tmp u, .tmp u2]) (hp : a.tmps.getD p undef = .pointer (some ⟨g, 0, none⟩))
    (hg : w.heap[g]? = some (.cells cs t fr)) (hu : P.underlying ty = some d) (hd : d.isRow = true) (hi : (P.info? ty).map (·.size) = some cs.size) (hdf : a.defers = []) (hR : R (.returned (.tuple #[.agg cs, a.tmps.getD u undef, a.tmps.getD u2 undef])) w) : bodyPost P fn R .ret a w := by
  refine bodyPost_ret (v := .tuple #[.agg cs, a.tmps.getD u undef, a.tmps.getD u2 undef]) ?_ hdf hR
  have hp' : a.tmps[p]?.getD undef = .pointer (some ⟨g, 0, none⟩) := by simpa using hp
  simp [results, h, hp', asAddr, run_loadVar_row w g t ty cs fr d hg hu (by cases d <;> first | rfl | cases hd) hi]
theorem ret_none {P : Program} {fn : Func} {R : Ending → World → Prop} {a : Act} {w : World} (h : fn.results = #[]) (hdf : a.defers = []) (hR : R (.returned (.tuple #[])) w) : bodyPost P fn R .ret a w := by
  refine bodyPost_ret (v := .tuple #[]) ?_ hdf hR
  simp [results, h]
theorem ret_norm {P : Program} {fn : Func} {R : Ending → World → Prop} {a : Act} {w : World} (h : fn.results = #[]) (hdf : a.defers = []) (hR : R (.returned (.tuple #[])) w) : bodyPost P fn R .normal a w :=
  ⟨hdf, .tuple #[], by simp [results, h], hR⟩
theorem ret_tmp3 {P : Program} {fn : Func} {R : Ending → World → Prop} {a : Act} {w : World} {u u1 u2 : Tmp} (h : fn.results = #[.tmp u, .tmp u1, .tmp u2]) (hdf : a.defers = []) (hR : R (.returned (.tuple #[a.tmps.getD u undef, a.tmps.getD u1 undef, a.tmps.getD u2 undef])) w) : bodyPost P fn R .ret a w := by
  refine bodyPost_ret (v := .tuple #[a.tmps.getD u undef, a.tmps.getD u1 undef, a.tmps.getD u2 undef]) ?_ hdf hR
  simp [results, h]
theorem own_at0 {w : World} {base g n c k : Nat} {e : TypeId} {xs : List Value} (h : w.ownsRow base e k (.slice (some ⟨g, 0, none⟩) n c) n xs) (hn : 0 < n) : ∃ cur : Array Value, w.heap[g]? = some (.cells cur e (0, 0)) ∧ base ≤ g ∧ n ≤ c ∧ c ≤ maxLen ∧ cur.size = c * k ∧ cur.toList.take (n * k) = xs := by
  obtain ⟨g', c', cur, e0, h1, h2, h3, h4, h5, h6⟩ := ownk_some h hn
  injection e0 with e1 _ e3
  injection e1 with e1
  injection e1 with e1
  subst e1 e3
  exact ⟨cur, h2, h1, h3, h4, h5, h6⟩
theorem own_cell {w : World} {base g n c k j : Nat} {e : TypeId} {xs : List Value} {u : Value} (h : w.ownsRow base e k (.slice (some ⟨g, 0, none⟩) n c) n xs) (hj : xs[j]? = some u) : w.cell? ⟨g, j, none⟩ = some u := by
  have hn : 0 < n := by
    rcases Nat.eq_zero_or_pos n with rfl | hn
    · have := h.1
      have := (List.getElem?_eq_some_iff.1 hj).1
      omega
    · exact hn
  obtain ⟨cur, hg, _, _, _, _, h6⟩ := own_at0 h hn
  rw [cell_of_row _ _ _ _ _ _ hg]
  rw [← h6, List.getElem?_take] at hj
  split at hj
  · simpa using hj
  · cases hj
theorem gro_set {a b : World} {g : Nat} (h : Gro (· = g) a b) {old cs : Array Value} {t : TypeId} {fr : Nat × Nat} (hb : b.heap[g]? = some (.cells old t fr)) (hs : old.size = cs.size) : Gro (· = g) a (b.setRow g cs) := by
  refine ⟨h.os, h.tape, h.output, by simp [World.setRow]; exact h.size, fun k hk hx => (setRow_other b g k cs hx).trans (h.block k hk hx), fun k c0 t0 f0 hk => ?_⟩
  obtain ⟨c1, e1, e2⟩ := h.shape k c0 t0 f0 hk
  by_cases hkg : k = g
  · subst hkg
    rw [hb] at e1
    injection e1 with e1
    injection e1 with e3 e4 e5
    subst e3 e4 e5
    exact ⟨cs, setRow_heap _ _ _ _ _ _ hb, by omega⟩
  · exact ⟨c1, (setRow_other b g k cs hkg).trans e1, e2⟩
theorem ownk_gro {a b : World} {N base k n : Nat} {e : TypeId} {v : Value} {xs : List Value} (h : a.ownsRow base e k v n xs) (hg : Gro (· = N) a b) (hN : N < base) : b.ownsRow base e k v n xs := by
  refine ⟨h.1, ?_⟩
  rcases h.2 with h2 | ⟨g, cap, cur, rfl, h1, h2, h3⟩
  · exact .inl h2
  · exact .inr ⟨g, cap, cur, rfl, h1, (hg.block g (row_lt h2) (by omega)).trans h2, h3⟩
theorem ownr_other {base N k n : Nat} {e : TypeId} {xs : List Value} (h : N < base) : StableG (fun x y => ∀ j, j ≠ N → y.heap[j]? = x.heap[j]?) (OwnR base e k n xs) := fun u x y hxy ho => by
  refine ⟨ho.1, ?_⟩
  rcases ho.2 with h2 | ⟨g, cap, cur, rfl, h1, h2, h3⟩
  · exact .inl h2
  · exact .inr ⟨g, cap, cur, rfl, h1, (hxy g (by omega)).trans h2, h3⟩
theorem five_cells {w : World} {b : Nat} {v0 v1 v2 v3 v4 : Value} {t : TypeId} {fr : Nat × Nat} (h : w.heap[b]? = some (.cells #[v0, v1, v2, v3, v4] t fr)) :
    w.cell? ⟨b, 0, none⟩ = some v0 ∧ w.cell? ⟨b, 1, none⟩ = some v1 ∧ w.cell? ⟨b, 2, none⟩ = some v2 ∧ w.cell? ⟨b, 3, none⟩ = some v3 ∧ w.cell? ⟨b, 4, none⟩ = some v4 := by
  refine ⟨?_, ?_, ?_, ?_, ?_⟩ <;> (rw [cell_of_row _ _ _ _ _ _ h]; rfl)
theorem u64_rem (z : Int) (m : Nat) (hm : 0 < m) (_hm2 : m < 1000) : ∃ r : Nat, (IntKind.u64.wrap z).tmod (m : Int) = (r : Int) ∧ r < m := by
  have h : 0 ≤ IntKind.u64.wrap z := by
    rw [IntKind.wrap_u64]
    exact Int.emod_nonneg _ (by decide)
  obtain ⟨q, hq⟩ := Int.eq_ofNat_of_zero_le h
  refine ⟨q % m, ?_, Nat.mod_lt _ hm⟩
  rw [hq]
  rfl
theorem five_at (w : World) (o0 o1 o2 o3 o4 : Obj) :
    (((((w.alloc o0).alloc o1).alloc o2).alloc o3).alloc o4).heap[w.heap.size]? = some o0 ∧ (((((w.alloc o0).alloc o1).alloc o2).alloc o3).alloc o4).heap[w.heap.size + 1]? = some o1 ∧ (((((w.alloc o0).alloc o1).alloc o2).alloc o3).alloc o4).heap[w.heap.size + 2]? = some o2 ∧
      (((((w.alloc o0).alloc o1).alloc o2).alloc o3).alloc o4).heap[w.heap.size + 3]? = some o3 ∧ (((((w.alloc o0).alloc o1).alloc o2).alloc o3).alloc o4).heap[w.heap.size + 4]? = some o4 ∧ Below w.heap.size w (((((w.alloc o0).alloc o1).alloc o2).alloc o3).alloc o4) := by
  have e1 := heap_alloc_new (w.alloc o0) o1
  have e2 := heap_alloc_new ((w.alloc o0).alloc o1) o2
  have e3 := heap_alloc_new (((w.alloc o0).alloc o1).alloc o2) o3
  have e4 := heap_alloc_new ((((w.alloc o0).alloc o1).alloc o2).alloc o3) o4
  simp only [World.size_alloc] at e1 e2 e3 e4
  refine ⟨old_alloc (old_alloc (old_alloc (old_alloc (heap_alloc_new w _) _) _) _) _, old_alloc (old_alloc (old_alloc e1 _) _) _, old_alloc (old_alloc e2 _) _, old_alloc e3 _, e4, ?_⟩
  exact (((((Below.refl _ _).alloc (Nat.le_refl _) _).alloc (by simp) _).alloc (by simp; omega) _).alloc (by simp; omega) _).alloc (by simp; omega) _
theorem ret_cct {P : Program} {fn : Func} {R : Ending → World → Prop} {a : Act} {w : World} {p q u : Tmp} {ty ty2 : TypeId} {g g2 : Nat} {cs ds : Array Value} {t t2 : TypeId} {fr fr2 : Nat × Nat} {d d2 : TypeDesc} (h : fn.results = #[.cell p ty, .cell q ty2, .tmp u]) (hp : a.tmps.getD p undef = .pointer (some ⟨g, 0, none⟩)) (hq : a.tmps.getD q undef = .pointer (some ⟨g2, 0, none⟩))
    (hg : w.heap[g]? = some (.cells cs t fr)) (hu : P.underlying ty = some d) (hd : d.isRow = true) (hi : (P.info? ty).map (·.size) = some cs.size) (hg2 : w.heap[g2]? = some (.cells ds t2 fr2)) (hu2 : P.underlying ty2 = some d2) (hd2 : d2.isRow = true) (hi2 : (P.info? ty2).map (·.size) = some ds.size) (hdf : a.defers = []) (hR : R (.returned (.tuple #[.agg cs, .agg ds, a.tmps.getD u undef])) w) : bodyPost P fn R .ret a w := by
  refine bodyPost_ret (v := .tuple #[.agg cs, .agg ds, a.tmps.getD u undef]) ?_ hdf hR
  have hp' : a.tmps[p]?.getD undef = .pointer (some ⟨g, 0, none⟩) := by simpa using hp
  have hq' : a.tmps[q]?.getD undef = .pointer (some ⟨g2, 0, none⟩) := by simpa using hq
  simp [results, h, hp', hq', asAddr, run_loadVar_row w g t ty cs fr d hg hu (by cases d <;> first | rfl | cases hd) hi, run_loadVar_row w g2 t2 ty2 ds fr2 d2 hg2 hu2 (by cases d2 <;> first | rfl | cases hd2) hi2]
theorem made_cells (z : Value) (n : Nat) : (madeCells #[z] n).toList = List.replicate n z := by
  refine List.ext_getElem? fun i => ?_
  unfold madeCells
  rw [Array.getElem?_toList, Array.getElem?_map, Array.getElem?_range, List.getElem?_replicate]
  by_cases h : i < n
  · simp [h, Nat.mod_one]
  · simp [h]
theorem made_own (w : World) (b base n : Nat) (z : Value) (e : TypeId) (h : w.heap[b]? = some (.cells (madeCells #[z] n) e (0, 0))) (hb : base ≤ b) (hn : n ≤ maxLen) : w.ownsRow base e 1 (.slice (some ⟨b, 0, none⟩) n n) n (List.replicate n z) :=
  ⟨by simp, .inr ⟨b, n, _, rfl, hb, h, Nat.le_refl _, hn, by rw [size_madeCells, Nat.mul_one], by rw [made_cells, Nat.mul_one]; exact List.take_of_length_le (by simp)⟩⟩

def I64 (z : Int) : Prop := -9223372036854775808 ≤ z ∧ z ≤ 9223372036854775807
/-- a store into a row of the call's own -/
theorem own_put {w : World} {base g n c p : Nat} {e : TypeId} {xs : List Value} {u : Value} (h : w.ownsRow base e 1 (.slice (some ⟨g, 0, none⟩) n c) n xs) (hp : p < n) (_hu : u.oneCell' = true) :
    (w.setCell ⟨g, p, none⟩ u).ownsRow base e 1 (.slice (some ⟨g, 0, none⟩) n c) n (xs.set p u) := by
  obtain ⟨g', c', cur, e0, h1, h2, h3, h4, h5, h6⟩ := ownk_some h (by omega)
  injection e0 with e1 _ e3
  injection e1 with e1
  injection e1 with e1
  subst e1 e3
  refine ⟨by rw [List.length_set]; exact h.1, .inr ⟨g, c, cur.setIfInBounds p u, rfl, h1, heap_setCell_same w g p cur e u h2, h3, h4, by simpa using h5, ?_⟩⟩
  rw [Array.toList_setIfInBounds, List.take_set, h6]
theorem store_cell {P : Program} {w : World} {g i : Nat} {cur : Array Value} {t : TypeId} {v : Value} (hg : w.heap[g]? = some (.cells cur t (0, 0))) (hi : i < cur.size) (hv : v.oneCell' = true) :
    (store ⟨g, i, none⟩ v).run P w = .ok () (w.setCell ⟨g, i, none⟩ v) := by
  have hc : w.cell? ⟨g, i, none⟩ = some cur[i] := by rw [cell_of_row _ _ _ _ _ _ hg]; simp [hi]
  have hf := frozen_of_row w g i cur t hg
  rw [run_store _ _ _ _ _ hv]
  simp [hc, hf]
theorem own_empty (w : World) (e : TypeId) (k : Nat) : (w.alloc (.cells #[] e)).ownsRow w.heap.size e k (.slice (some ⟨w.heap.size, 0, none⟩) 0 0) 0 [] :=
  ⟨by simp, .inr ⟨w.heap.size, 0, #[], rfl, Nat.le_refl _, heap_alloc_new w _, Nat.le_refl _, Nat.zero_le _, by simp, by simp⟩⟩
theorem own_none {w : World} {base k n c : Nat} {e : TypeId} {A : Option Addr} {xs : List Value} (h : w.ownsRow base e k (.slice A n c) n xs) : A = none → c = 0 := by
  obtain ⟨A', c', e, -, -, h3⟩ := ownk_form h
  injection e with e1 _ e3
  subst e1 e3
  exact h3
theorem new_at1 (w : World) (o p : Obj) : ((w.alloc o).alloc p).heap[w.heap.size + 1]? = some p := by
  have := heap_alloc_new (w.alloc o) p
  rwa [World.size_alloc] at this
theorem new_at2 (w : World) (o p q : Obj) : (((w.alloc o).alloc p).alloc q).heap[w.heap.size + 1 + 1]? = some q := by
  have := heap_alloc_new ((w.alloc o).alloc p) q
  rwa [World.size_alloc, World.size_alloc] at this
/-- the bytes behind k rounds of 'own[i]++' -/
def incL (l : List UInt8) (k : Nat) : List UInt8 := (l.take k).map (· + 1) ++ l.drop k
theorem incL_length (l : List UInt8) (k : Nat) : (incL l k).length = l.length := by simp [incL]; omega
theorem incL_zero (l : List UInt8) : incL l 0 = l := by simp [incL]
theorem incL_get (l : List UInt8) (k : Nat) (h : k < l.length) : (cells (incL l k))[k]? = some (.int .u8 (l[k].toNat : Int)) := by
  rw [cells_get _ k (by rw [incL_length]; exact h)]
  have e : (incL l k)[k]'(by rw [incL_length]; exact h) = l[k] := by
    have h1 : (incL l k)[k]? = some l[k] := by
      unfold incL
      rw [List.getElem?_append_right (by rw [List.length_map, List.length_take]; omega), List.length_map, List.length_take, Nat.min_eq_left (by omega), Nat.sub_self, List.getElem?_drop, Nat.add_zero, List.getElem?_eq_getElem h]
    rw [List.getElem?_eq_getElem (by rw [incL_length]; exact h)] at h1
    exact Option.some.inj h1
  rw [e]
theorem incL_set (l : List UInt8) (k : Nat) (h : k < l.length) : (cells (incL l k)).set k (.int .u8 ((l[k] + 1).toNat : Int)) = cells (incL l (k + 1)) := by
  unfold incL
  rw [cells_append, cells_append, List.set_append_right _ _ (by rw [cells_length]; simp; omega), List.take_succ_eq_append_getElem h, List.map_append, cells_append, List.append_assoc]
  congr 1
  rw [cells_length, List.length_map, List.length_take, Nat.min_eq_left (by omega), Nat.sub_self, List.drop_eq_getElem_cons h]
  rfl

theorem row5 {w : World} {g : Nat} {t : TypeId} {u0 u1 u2 u3 u4 : Value} (h : w.heap[g]? = some (.cells #[u0, u1, u2, u3, u4] t (0, 0))) (v0 v1 v2 v3 v4 : Value) :
    ((((w.setCell ⟨g, 0, none⟩ v0).setCell ⟨g, 1, none⟩ v1).setCell ⟨g, 2, none⟩ v2).setCell ⟨g, 3, none⟩ v3).setCell ⟨g, 4, none⟩ v4 = w.setRow g #[v0, v1, v2, v3, v4] := by
  rw [setCell_eq_setRow w g 0 _ t (0, 0) v0 h, setCell_eq_setRow _ g 1 _ t (0, 0) v1 (setRow_heap _ _ _ _ _ _ h), setRow_setRow, setCell_eq_setRow _ g 2 _ t (0, 0) v2 (setRow_heap _ _ _ _ _ _ h), setRow_setRow,
    setCell_eq_setRow _ g 3 _ t (0, 0) v3 (setRow_heap _ _ _ _ _ _ h), setRow_setRow, setCell_eq_setRow _ g 4 _ t (0, 0) v4 (setRow_heap _ _ _ _ _ _ h), setRow_setRow]
  rfl
/-- a store into a block that lies outside of a window -/
theorem Rd.setRow {w : World} {lo hi : Nat} {A : Option Addr} {xs : List Value} (h : Rd w lo hi A xs) {g : Nat} (hg : g < lo ∨ hi ≤ g) (cs : Array Value) : Rd (w.setRow g cs) lo hi A xs :=
  h.keep fun q h1 h2 => World.cell?_of_block (setRow_other w g q.block cs (by omega))
/-- blocks of lo to hi stay -/
def Stay (lo hi : Nat) (w w' : World) : Prop := ∀ j, lo ≤ j → j < hi → w'.heap[j]? = w.heap[j]?
theorem Stay.refl (lo hi : Nat) (w : World) : Stay lo hi w w := fun _ _ _ => rfl
theorem Stay.trans {lo hi : Nat} {a b c : World} (h : Stay lo hi a b) (k : Stay lo hi b c) : Stay lo hi a c := fun j h1 h2 => (k j h1 h2).trans (h j h1 h2)
theorem Stay.of {lo hi B : Nat} {w w' : World} (h : Below B w w') (hB : hi ≤ B) : Stay lo hi w w' := fun j _ h2 => h.block j (by omega)
theorem Stay.row {lo hi : Nat} (w : World) {g : Nat} (hg : g < lo ∨ hi ≤ g) (cs : Array Value) : Stay lo hi w (w.setRow g cs) := fun j h1 h2 => setRow_other w g j cs (by omega)
theorem Stay.cell {lo hi : Nat} (w : World) {p : Addr} (hg : p.block < lo ∨ hi ≤ p.block) (u : Value) : Stay lo hi w (w.setCell p u) := fun j h1 h2 => heap_setCell_other w p j u (by omega)
theorem Stay.gro {lo hi N : Nat} {w w' : World} (h : Gro (· = N) w w') (hN : N < lo ∨ hi ≤ N) (hhi : hi ≤ w.heap.size) : Stay lo hi w w' := fun j h1 h2 => h.block j (by omega) (by omega)
theorem Rd.stay {w w' : World} {lo hi : Nat} {A : Option Addr} {xs : List Value} (h : Rd w lo hi A xs) (hs : Stay lo hi w w') : Rd w' lo hi A xs := h.keep fun q h1 h2 => World.cell?_of_block (hs q.block h1 h2)
end Go.Proofs.Ytebflcpoecolbaa
