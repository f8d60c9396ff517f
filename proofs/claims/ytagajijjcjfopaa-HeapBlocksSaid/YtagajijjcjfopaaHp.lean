/-
  A heap's words: bytes, blocks and truths as rows of the call's own; loads and stores of such a struct. No condition.
-/
import Derived.Test.YtagajijjcjfopaaRelyG
import Derived.Test.YtagajijjcjfopaaRelyL
import Derived.Test.YtagajijjcjfopaaRelyQ
import Derived.Test.YtagajijjcjfopaaRow
import Derived.Laws.ResultCell
import Derived.Deep.DeepCutAuto
import Derived.StillTailTactics
import Derived.WalkMore
namespace Go.Proofs.Ytagajijjcjfopaa
open Go.RowKit

theorem info_u8 : (Try.prog.info? 5).map (fun i => (i.zero, i.size, i.bytes)) = some (some (.int .u8 0), 1, 1) := by kernel_rfl
theorem info_tf : (Try.prog.info? 4).map (fun i => (i.zero, i.size, i.bytes)) = some (some (.bool false), 1, 1) := by kernel_rfl
theorem info_bk : (Try.prog.info? 62).map (fun i => (i.zero, i.size, i.bytes)) = some (some (.agg #[.int .i64 0, .int .i64 0]), 2, 16) := by kernel_rfl
theorem info_in : (Try.prog.info? 3).map (fun i => (i.zero, i.size, i.bytes)) = some (some (.int .i64 0), 1, 8) := by kernel_rfl

/-- where a block begins, how long it is -/
abbrev Bk := Nat × Nat
def bkC (b : Bk) : List Value := [.int .i64 (b.1 : Int), .int .i64 (b.2 : Int)]
def bks (L : List Bk) : List Value := L.flatMap bkC
def tfs (D : List Bool) : List Value := D.map Value.bool
theorem bks_nil : bks [] = [] := rfl
theorem bks_cons (b : Bk) (L : List Bk) : bks (b :: L) = bkC b ++ bks L := rfl
theorem bks_append (L M : List Bk) : bks (L ++ M) = bks L ++ bks M := by simp [bks]
theorem bks_length (L : List Bk) : (bks L).length = L.length * 2 := by
  induction L with
  | nil => rfl
  | cons b L ih => rw [bks_cons, List.length_append, ih, List.length_cons]; simp only [bkC, List.length_cons, List.length_nil]; omega
theorem bks_drop (L : List Bk) (i : Nat) : (bks L).drop (i * 2) = bks (L.drop i) := by
  induction L generalizing i with
  | nil => simp [bks]
  | cons b L ih => cases i with
    | zero => simp
    | succ i => rw [bks_cons, show (i + 1) * 2 = (bkC b).length + i * 2 from by simp [bkC]; omega, List.drop_append, Nat.add_sub_cancel_left, ih]; simp
theorem bks_take (L : List Bk) (i : Nat) : (bks L).take (i * 2) = bks (L.take i) := by
  induction L generalizing i with
  | nil => simp [bks]
  | cons b L ih => cases i with
    | zero => simp [bks]
    | succ i => rw [bks_cons, show (i + 1) * 2 = (bkC b).length + i * 2 from by simp [bkC]; omega, List.take_append, Nat.add_sub_cancel_left, ih, List.take_succ_cons, bks_cons, List.take_of_length_le (Nat.le_add_right _ _)]
theorem bks_at (L : List Bk) (i : Nat) (b : Bk) (h : L[i]? = some b) : ((bks L).drop (i * 2)).take 2 = bkC b := by
  rw [bks_drop, List.drop_eq_getElem?_toList_append, h]
  rfl
theorem bks_one (L : List Bk) : ∀ u ∈ bks L, u.oneCell' = true := by
  intro u hu
  simp only [bks, List.mem_flatMap] at hu
  obtain ⟨b, _, hb⟩ := hu
  simp [bkC] at hb
  rcases hb with rfl | rfl <;> rfl
theorem bks_two (L : List Bk) (i : Nat) (b : Bk) (h : L[i]? = some b) : (bks L)[i * 2]? = some (.int .i64 (b.1 : Int)) ∧ (bks L)[i * 2 + 1]? = some (.int .i64 (b.2 : Int)) := by
  have h2 := bks_at L i b h
  have e0 : ((bks L).drop (i * 2)).take 2 = bkC b := h2
  constructor
  · have := congrArg (·[0]?) e0
    simp only [List.getElem?_take, List.getElem?_drop] at this
    simpa [bkC] using this
  · have := congrArg (·[1]?) e0
    simp only [List.getElem?_take, List.getElem?_drop] at this
    simpa [bkC] using this
theorem tfs_length (D : List Bool) : (tfs D).length = D.length := by simp [tfs]
theorem tfs_one (D : List Bool) : ∀ u ∈ tfs D, u.oneCell' = true := by
  intro u hu
  simp [tfs] at hu
  rcases hu with ⟨_, rfl⟩ | ⟨_, rfl⟩ <;> rfl
theorem tfs_get (D : List Bool) (i : Nat) (h : i < D.length) : (tfs D)[i]? = some (.bool D[i]) := by simp [tfs, h]

/-- a row that a call owns -/
def OwnR (base : Nat) (e : TypeId) (k n : Nat) (xs : List Value) : Pred := fun v w => w.ownsRow base e k v n xs
theorem ownr_mono (base : Nat) (e : TypeId) (k n : Nat) (xs : List Value) : Mono (OwnR base e k n xs) := fun _ _ _ hb h => ownk_below h hb (Nat.le_refl _)
theorem ownk_rd {w : World} {base k : Nat} {e : TypeId} {A : Option Addr} {n c : Nat} {xs : List Value} (h : w.ownsRow base e k (.slice A n c) n xs) : Rd w base w.heap.size A xs := (Tr.own h).rd

/-- a heap, its three rows from block base on -/
def HpV (base : Nat) (B : List UInt8) (L : List Bk) (D : List Bool) (w : World) (v1 v2 v3 : Value) : Prop :=
  w.ownsRow base 5 1 v1 B.length (cells B) ∧ w.ownsRow base 62 2 v2 L.length (bks L) ∧ w.ownsRow base 4 1 v3 D.length (tfs D)
def Hp (base : Nat) (B : List UInt8) (L : List Bk) (D : List Bool) : Pred := fun v w => ∃ v1 v2 v3, v = .agg #[v1, v2, v3] ∧ HpV base B L D w v1 v2 v3
section
variable {base base' : Nat} {B : List UInt8} {L : List Bk} {D : List Bool} {w w' : World} {v v1 v2 v3 : Value}
theorem HpV.below {b : Nat} (h : HpV base B L D w v1 v2 v3) (hb : Below b w w') (hB : w.heap.size ≤ b := by first | exact Nat.le_refl _ | simp) : HpV base B L D w' v1 v2 v3 :=
  ⟨ownk_below h.1 hb hB, ownk_below h.2.1 hb hB, ownk_below h.2.2 hb hB⟩
theorem HpV.wide (h : HpV base B L D w v1 v2 v3) (hb : base' ≤ base) : HpV base' B L D w v1 v2 v3 := ⟨ownk_base h.1 hb, ownk_base h.2.1 hb, ownk_base h.2.2 hb⟩
theorem HpV.alloc (h : HpV base B L D w v1 v2 v3) (o : Obj) : HpV base B L D (w.alloc o) v1 v2 v3 := h.below ((Below.refl _ _).alloc (Nat.le_refl _) o)
theorem HpV.shut (h : HpV base B L D w v1 v2 v3) : Hp base B L D (.agg #[v1, v2, v3]) w := ⟨v1, v2, v3, rfl, h⟩
theorem hp_mono (base : Nat) (B : List UInt8) (L : List Bk) (D : List Bool) : Mono (Hp base B L D) := fun _ _ _ hb ⟨v1, v2, v3, e, h⟩ => ⟨v1, v2, v3, e, h.below hb⟩
theorem Hp.below {b : Nat} (h : Hp base B L D v w) (hb : Below b w w') (hB : w.heap.size ≤ b := by first | exact Nat.le_refl _ | simp) : Hp base B L D v w' := by
  obtain ⟨v1, v2, v3, e, h⟩ := h
  exact ⟨v1, v2, v3, e, h.below hb hB⟩
theorem Hp.wide (h : Hp base B L D v w) (hb : base' ≤ base) : Hp base' B L D v w := by
  obtain ⟨v1, v2, v3, e, h⟩ := h
  exact ⟨v1, v2, v3, e, h.wide hb⟩
theorem Hp.alloc (h : Hp base B L D v w) (o : Obj) : Hp base B L D v (w.alloc o) := h.below ((Below.refl _ _).alloc (Nat.le_refl _) o)
end
/-- a store into a block of another type -/
theorem ownk_other {w : World} {base k : Nat} {e t : TypeId} {v : Value} {n : Nat} {xs : List Value} (h : w.ownsRow base e k v n xs) {g : Nat} {C : Array Value} {fr : Nat × Nat} (hg : w.heap[g]? = some (.cells C t fr)) (hne : t ≠ e) {w' : World}
    (hk : ∀ j, j ≠ g → w'.heap[j]? = w.heap[j]?) : w'.ownsRow base e k v n xs := by
  refine ⟨h.1, ?_⟩
  rcases h.2 with h | ⟨g', cap, cur, rfl, h1, h2, h3⟩
  · exact .inl h
  · refine .inr ⟨g', cap, cur, rfl, h1, (hk g' fun e => ?_).trans h2, h3⟩
    subst e
    rw [hg] at h2
    injection h2 with h2
    injection h2 with _ h2
    exact hne h2
theorem HpV.other {base : Nat} {B : List UInt8} {L : List Bk} {D : List Bool} {w w' : World} {v1 v2 v3 : Value} (h : HpV base B L D w v1 v2 v3) {g : Nat} {C : Array Value} {t : TypeId} {fr : Nat × Nat} (hg : w.heap[g]? = some (.cells C t fr))
    (hn1 : t ≠ 5) (hn2 : t ≠ 62) (hn3 : t ≠ 4) (hk : ∀ j, j ≠ g → w'.heap[j]? = w.heap[j]?) : HpV base B L D w' v1 v2 v3 :=
  ⟨ownk_other h.1 hg hn1 hk, ownk_other h.2.1 hg hn2 hk, ownk_other h.2.2 hg hn3 hk⟩
theorem three_cells {w : World} {b : Nat} {v0 v1 v2 : Value} {t : TypeId} {fr : Nat × Nat} (h : w.heap[b]? = some (.cells #[v0, v1, v2] t fr)) :
    w.cell? ⟨b, 0, none⟩ = some v0 ∧ w.cell? ⟨b, 1, none⟩ = some v1 ∧ w.cell? ⟨b, 2, none⟩ = some v2 := by
  refine ⟨?_, ?_, ?_⟩ <;> (rw [cell_of_row _ _ _ _ _ _ h]; rfl)
theorem two_cells {w : World} {b : Nat} {v0 v1 : Value} {t : TypeId} {fr : Nat × Nat} (h : w.heap[b]? = some (.cells #[v0, v1] t fr)) :
    w.cell? ⟨b, 0, none⟩ = some v0 ∧ w.cell? ⟨b, 1, none⟩ = some v1 := by
  refine ⟨?_, ?_⟩ <;> (rw [cell_of_row _ _ _ _ _ _ h]; rfl)
theorem one_cells {w : World} {b : Nat} {v0 : Value} {t : TypeId} {fr : Nat × Nat} (h : w.heap[b]? = some (.cells #[v0] t fr)) : w.cell? ⟨b, 0, none⟩ = some v0 := by
  rw [cell_of_row _ _ _ _ _ _ h]; rfl
theorem ownk_one {w : World} {base k : Nat} {e : TypeId} {v : Value} {n : Nat} {xs : List Value} (h : w.ownsRow base e k v n xs) : v.oneCell' = true := by
  obtain ⟨A, c, rfl, _⟩ := ownk_form h
  rfl
theorem HpV.ones {base : Nat} {B : List UInt8} {L : List Bk} {D : List Bool} {w : World} {v1 v2 v3 : Value} (h : HpV base B L D w v1 v2 v3) : (#[v1, v2, v3] : Array Value).all (·.oneCell') = true := by
  simp [ownk_one h.1, ownk_one h.2.1, ownk_one h.2.2]
theorem HpV.forms {base : Nat} {B : List UInt8} {L : List Bk} {D : List Bool} {w : World} {v1 v2 v3 : Value} (h : HpV base B L D w v1 v2 v3) :
    ∃ A1 c1 A2 c2 A3 c3, v1 = .slice A1 B.length c1 ∧ v2 = .slice A2 L.length c2 ∧ v3 = .slice A3 D.length c3 := by
  obtain ⟨A1, c1, e1, _⟩ := ownk_form h.1
  obtain ⟨A2, c2, e2, _⟩ := ownk_form h.2.1
  obtain ⟨A3, c3, e3, _⟩ := ownk_form h.2.2
  exact ⟨A1, c1, A2, c2, A3, c3, e1, e2, e3⟩
theorem old_below {w w' : World} {b B : Nat} {o : Obj} (h : w.heap[b]? = some o) (hb : Below B w w') (hB : b < B) : w'.heap[b]? = some o := (hb.block _ hB).trans h
theorem row_lt {w : World} {b : Nat} {o : Obj} (h : w.heap[b]? = some o) : b < w.heap.size := (Array.getElem?_eq_some_iff.1 h).1
theorem old_alloc {w : World} {b : Nat} {o : Obj} (h : w.heap[b]? = some o) (o2 : Obj) : (w.alloc o2).heap[b]? = some o := (Below.heap_alloc _ _ _ (row_lt h)).trans h
theorem setRow_cells (w : World) (g : Nat) (cs : Array Value) : ∀ j, j ≠ g → (w.setRow g cs).heap[j]? = w.heap[j]? := fun j hj => setRow_other w g j cs hj
theorem below_setRow {B : Nat} {w w1 : World} (h : Below B w w1) {g : Nat} (hg : B ≤ g) (cs : Array Value) : Below B w (w1.setRow g cs) :=
  ⟨h.os, h.tape, h.output, by simp [World.setRow]; exact h.size, fun k hk => (setRow_other w1 g k cs (by omega)).trans (h.block k hk)⟩
theorem ret_one {P : Program} {fn : Func} {R : Ending → World → Prop} {a : Act} {w : World} {p : Tmp} {ty : TypeId} {g : Nat} {cs : Array Value} {t : TypeId} {fr : Nat × Nat} {d : TypeDesc} (h : fn.results = #[.cell p ty]) (hp : a.tmps.getD p undef = .pointer (some ⟨g, 0, none⟩))
    (hg : w.heap[g]? = some (.cells cs t fr)) (hu : P.underlying ty = some d) (hd : d.isRow = true) (hi : (P.info? ty).map (·.size) = some cs.size) (hdf : a.defers = []) (hR : R (.returned (.agg cs)) w) : bodyPost P fn R .ret a w := by
  refine bodyPost_ret (v := .agg cs) ?_ hdf hR
  exact results_cell_row h a.tmps w g t cs fr d hp hg hu (by cases d <;> first | rfl | cases hd) hi
theorem ret_two {P : Program} {fn : Func} {R : Ending → World → Prop} {a : Act} {w : World} {p u : Tmp} {ty : TypeId} {g : Nat} {cs : Array Value} {t : TypeId} {fr : Nat × Nat} {d : TypeDesc} (h : fn.results = #[.cell p ty, .tmp u]) (hp : a.tmps.getD p undef = .pointer (some ⟨g, 0, none⟩))
    (hg : w.heap[g]? = some (.cells cs t fr)) (hu : P.underlying ty = some d) (hd : d.isRow = true) (hi : (P.info? ty).map (·.size) = some cs.size) (hdf : a.defers = []) (hR : R (.returned (.tuple #[.agg cs, a.tmps.getD u undef])) w) : bodyPost P fn R .ret a w := by
  refine bodyPost_ret (v := .tuple #[.agg cs, a.tmps.getD u undef]) ?_ hdf hR
  have hp' : a.tmps[p]?.getD undef = .pointer (some ⟨g, 0, none⟩) := by simpa using hp
  simp [results, h, hp', asAddr, run_loadVar_row w g t ty cs fr d hg hu (by cases d <;> first | rfl | cases hd) hi]
theorem ret_three {P : Program} {fn : Func} {R : Ending → World → Prop} {a : Act} {w : World} {p u u2 : Tmp} {ty : TypeId} {g : Nat} {cs : Array Value} {t : TypeId} {fr : Nat × Nat} {d : TypeDesc} (h : fn.results = #[.cell p ty, .tmp u, .tmp u2]) (hp : a.tmps.getD p undef = .pointer (some ⟨g, 0, none⟩))
    (hg : w.heap[g]? = some (.cells cs t fr)) (hu : P.underlying ty = some d) (hd : d.isRow = true) (hi : (P.info? ty).map (·.size) = some cs.size) (hdf : a.defers = []) (hR : R (.returned (.tuple #[.agg cs, a.tmps.getD u undef, a.tmps.getD u2 undef])) w) : bodyPost P fn R .ret a w := by
  refine bodyPost_ret (v := .tuple #[.agg cs, a.tmps.getD u undef, a.tmps.getD u2 undef]) ?_ hdf hR
  have hp' : a.tmps[p]?.getD undef = .pointer (some ⟨g, 0, none⟩) := by simpa using hp
  simp [results, h, hp', asAddr, run_loadVar_row w g t ty cs fr d hg hu (by cases d <;> first | rfl | cases hd) hi]
theorem ret_none {P : Program} {fn : Func} {R : Ending → World → Prop} {a : Act} {w : World} (h : fn.results = #[]) (hdf : a.defers = []) (hR : R (.returned (.tuple #[])) w) : bodyPost P fn R .ret a w := by
  refine bodyPost_ret (v := .tuple #[]) ?_ hdf hR
  simp [results, h]
theorem ret_norm {P : Program} {fn : Func} {R : Ending → World → Prop} {a : Act} {w : World} (h : fn.results = #[]) (hdf : a.defers = []) (hR : R (.returned (.tuple #[])) w) : bodyPost P fn R .normal a w :=
  ⟨hdf, .tuple #[], by simp [results, h], hR⟩
theorem ret_tmp3 {P : Program} {fn : Func} {R : Ending → World → Prop} {a : Act} {w : World} {u u1 u2 : Tmp} (h : fn.results = #[.tmp u, .tmp u1, .tmp u2]) (hdf : a.defers = []) (hR : R (.returned (.tuple #[a.tmps.getD u undef, a.tmps.getD u1 undef, a.tmps.getD u2 undef])) w) : bodyPost P fn R .ret a w := by
  refine bodyPost_ret (v := .tuple #[a.tmps.getD u undef, a.tmps.getD u1 undef, a.tmps.getD u2 undef]) ?_ hdf hR
  simp [results, h]
theorem own_at0 {w : World} {base g n c k : Nat} {e : TypeId} {xs : List Value} (h : w.ownsRow base e k (.slice (some ⟨g, 0, none⟩) n c) n xs) (hn : 0 < n) : ∃ cur : Array Value, w.heap[g]? = some (.cells cur e (0, 0)) ∧ base ≤ g ∧ n ≤ c ∧ c ≤ maxLen ∧ cur.size = c * k ∧ cur.toList.take (n * k) = xs := by
  obtain ⟨g', c', cur, e0, h1, h2, h3, h4, h5, h6⟩ := ownk_some h hn
  injection e0 with e1 _ e3
  injection e1 with e1
  injection e1 with e1
  subst e1 e3
  exact ⟨cur, h2, h1, h3, h4, h5, h6⟩
theorem own_cell {w : World} {base g n c k j : Nat} {e : TypeId} {xs : List Value} {u : Value} (h : w.ownsRow base e k (.slice (some ⟨g, 0, none⟩) n c) n xs) (hj : xs[j]? = some u) : w.cell? ⟨g, j, none⟩ = some u := by
  have hn : 0 < n := by
    rcases Nat.eq_zero_or_pos n with rfl | hn
    · have := h.1
      have := (List.getElem?_eq_some_iff.1 hj).1
      omega
    · exact hn
  obtain ⟨cur, hg, _, _, _, _, h6⟩ := own_at0 h hn
  rw [cell_of_row _ _ _ _ _ _ hg]
  rw [← h6, List.getElem?_take] at hj
  split at hj
  · simpa using hj
  · cases hj
end Go.Proofs.Ytagajijjcjfopaa
