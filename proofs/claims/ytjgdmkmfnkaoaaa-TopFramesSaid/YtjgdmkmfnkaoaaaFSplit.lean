/-
  Rows of structs, of no one layer: cells that read as a list of elements of k cells each; rows that lie in blocks of one element type; a struct read out of any place; append of a struct; a slice literal of one struct. No condition.
-/
/-
  Packets as plain data, and what a packet's value reads as: of no one layer (for seats without ip4's Build and Parse). No condition.
-/
/-
  bytes.Clone, frag.cut, frag.end and frag.formed: their answers, for every packet that can be read. No condition.
-/
/-
  frag.end, frag.formed: their answers, for every packet that can be read. No condition.
-/
/-
  frag.Split: ErrArg of a piece, ErrLong of more than 1000 bytes, else the packet in pieces, each with its own memory. Every packet that can be read.
-/
/-
  frag.Split, all of it: what it answers of every packet that can be read. No condition.
-/
import Derived.Test.YtjgdmkmfnkaoaaaMem
import Derived.Laws.Rows
import Derived.Laws.Tables
import Derived.Deep.MidRow
import Derived.Deep.WholeRow
import Derived.Great.BuildSlice
import Derived.Test.YtjgdmkmfnkaoaaaRely
import Derived.StillTailTactics
import Derived.Laws.ResultCell
import Derived.Lib.AppendZeros
import Derived.IntWalk
import Derived.Laws.CopyOwn
import Derived.Test.YtjgdmkmfnkaoaaaRelyG
namespace Go.Proofs.Ytjgdmkmfnkaoaaa.F
open Go.RowKit

/-- cells that read as a list, k cells an element -/
def RowOf {α : Type} (k : Nat) (R : List Value → α → Prop) (xs : List Value) (el : List α) : Prop :=
  xs.length = el.length * k ∧ ∀ (i : Nat) (a : α), el[i]? = some a → R ((xs.drop (i * k)).take k) a
section
variable {α : Type} {k : Nat} {R : List Value → α → Prop} {xs ys : List Value} {el bs : List α}
theorem RowOf.nil : RowOf k R [] ([] : List α) := ⟨by simp, by simp⟩
theorem RowOf.one {cs : List Value} {a : α} (h : R cs a) (hl : cs.length = k) : RowOf k R cs [a] :=
  ⟨by simpa using hl, fun i b hb => by
    cases i with
    | zero => simp at hb; subst hb; simpa [List.take_of_length_le (Nat.le_of_eq hl)] using h
    | succ i => simp at hb⟩
theorem RowOf.append (h : RowOf k R xs el) (h2 : RowOf k R ys bs) : RowOf k R (xs ++ ys) (el ++ bs) := by
  refine ⟨by rw [List.length_append, h.1, h2.1, List.length_append, Nat.add_mul], fun i a hi => ?_⟩
  rcases Nat.lt_or_ge i el.length with hlt | hge
  · have hk : i * k + k ≤ xs.length := by rw [h.1, ← Nat.succ_mul]; exact Nat.mul_le_mul_right k hlt
    rw [List.drop_append_of_le_length (by omega), List.take_append_of_le_length (by rw [List.length_drop]; omega)]
    exact h.2 i a (by rwa [List.getElem?_append_left hlt] at hi)
  · rw [List.getElem?_append_right hge] at hi
    have := h2.2 _ a hi
    rwa [show (xs ++ ys).drop (i * k) = ys.drop ((i - el.length) * k) from by
      rw [List.drop_append, List.drop_eq_nil_of_le (by rw [h.1]; exact Nat.mul_le_mul_right k hge), List.nil_append, h.1, Nat.sub_mul]]
theorem RowOf.imp {R' : List Value → α → Prop} (h : RowOf k R xs el) (hi : ∀ cs a, a ∈ el → R cs a → R' cs a) : RowOf k R' xs el :=
  ⟨h.1, fun i a ha => hi _ a (List.mem_of_getElem? ha) (h.2 i a ha)⟩
theorem RowOf.take (h : RowOf k R xs el) (n : Nat) : RowOf k R (xs.take (n * k)) (el.take n) := by
  refine ⟨by rw [List.length_take, List.length_take, h.1, Nat.mul_min_mul_right], fun i a hi => ?_⟩
  rw [List.getElem?_take] at hi
  split at hi
  · rename_i hlt
    rw [List.drop_take, List.take_take, Nat.min_eq_left (by rw [← Nat.sub_mul]; exact Nat.le_mul_of_pos_left k (by omega))]
    exact h.2 i a hi
  · cases hi
theorem RowOf.drop (h : RowOf k R xs el) (n : Nat) : RowOf k R (xs.drop (n * k)) (el.drop n) := by
  refine ⟨by rw [List.length_drop, List.length_drop, h.1, Nat.sub_mul], fun i a hi => ?_⟩
  rw [List.getElem?_drop] at hi
  rw [List.drop_drop, ← Nat.add_mul]
  exact h.2 _ a hi
theorem RowOf.at_ (h : RowOf k R xs el) {i : Nat} (hi : i < el.length) : R ((xs.drop (i * k)).take k) el[i] ∧ ((xs.drop (i * k)).take k).length = k := by
  refine ⟨h.2 i _ (List.getElem?_eq_getElem hi), ?_⟩
  rw [List.length_take, List.length_drop, h.1, ← Nat.sub_mul]
  exact Nat.min_eq_left (Nat.le_mul_of_pos_left k (by omega))
theorem RowOf.set (h : RowOf k R xs el) {i : Nat} (hi : i < el.length) {cs : List Value} {a : α} (ha : R cs a) (hl : cs.length = k) : RowOf k R (xs.take (i * k) ++ cs ++ xs.drop (i * k + k)) (el.set i a) := by
  rw [List.set_eq_take_append_cons_drop, if_pos hi, show el.take i ++ a :: el.drop (i + 1) = el.take i ++ [a] ++ el.drop (i + 1) from by simp, ← Nat.succ_mul]
  exact ((h.take i).append (RowOf.one ha hl)).append (h.drop (i + 1))
theorem RowOf.erase (h : RowOf k R xs el) (i : Nat) : RowOf k R (xs.take (i * k) ++ xs.drop (i * k + k)) (el.eraseIdx i) := by
  rw [List.eraseIdx_eq_take_drop_succ, ← Nat.succ_mul]
  exact (h.take i).append (h.drop (i + 1))
theorem RowOf.one_cell (h : RowOf k R xs el) (h1 : ∀ cs a, R cs a → ∀ u ∈ cs, u.oneCell' = true) (hk : 0 < k) : ∀ u ∈ xs, u.oneCell' = true := by
  intro u hu
  obtain ⟨j, hj, rfl⟩ := List.mem_iff_getElem.1 hu
  have hi : j / k < el.length := by rw [Nat.div_lt_iff_lt_mul hk, ← h.1]; exact hj
  refine h1 _ _ (h.at_ hi).1 _ ?_
  have hm := Nat.div_add_mod' j k
  have hlt := Nat.mod_lt j hk
  refine List.mem_iff_getElem?.2 ⟨j % k, ?_⟩
  rw [List.getElem?_take, if_pos hlt, List.getElem?_drop, hm]
  exact List.getElem?_eq_getElem hj
end

/-- every cell of xs is read behind head A, in blocks of element type e, from lo on -/
def Tr (w : World) (lo : Nat) (e : TypeId) (A : Option Addr) (xs : List Value) : Prop :=
  ∀ k u, xs[k]? = some u → ∃ (g o : Nat) (C : Array Value), A = some ⟨g, o, none⟩ ∧ lo ≤ g ∧ w.heap[g]? = some (.cells C e (0, 0)) ∧ C[o + k]? = some u
section
variable {w w' : World} {lo : Nat} {e : TypeId} {A : Option Addr} {xs : List Value}
theorem Tr.nil : Tr w lo e A [] := by intro k u h; simp at h
theorem Tr.rd (h : Tr w lo e A xs) : Rd w lo w.heap.size A xs := by
  intro k u hu
  obtain ⟨g, o, C, rfl, h1, h2, h3⟩ := h k u hu
  refine ⟨_, rfl, h1, (Array.getElem?_eq_some_iff.1 h2).1, ?_⟩
  rw [Addr.add_mid, cell_of_row _ _ _ _ _ _ h2]
  exact h3
theorem Tr.keep (h : Tr w lo e A xs) (hk : ∀ g C, lo ≤ g → w.heap[g]? = some (.cells C e (0, 0)) → w'.heap[g]? = w.heap[g]?) : Tr w' lo e A xs := by
  intro k u hu
  obtain ⟨g, o, C, rfl, h1, h2, h3⟩ := h k u hu
  exact ⟨g, o, C, rfl, h1, (hk g C h1 h2).trans h2, h3⟩
theorem Tr.below {B : Nat} (h : Tr w lo e A xs) (hb : Below B w w') (hB : w.heap.size ≤ B) : Tr w' lo e A xs :=
  h.keep fun g C _ hg => hb.block g (by have := (Array.getElem?_eq_some_iff.1 hg).1; omega)
theorem Tr.wide {lo' : Nat} (h : Tr w lo e A xs) (hl : lo' ≤ lo) : Tr w lo' e A xs := by
  intro k u hu
  obtain ⟨g, o, C, h0, h1, h2⟩ := h k u hu
  exact ⟨g, o, C, h0, by omega, h2⟩
theorem Tr.alloc (h : Tr w lo e A xs) (o : Obj) : Tr (w.alloc o) lo e A xs := h.keep fun _ _ _ hg => Below.heap_alloc _ _ _ (Array.getElem?_eq_some_iff.1 hg).1
theorem Tr.grown {row : Option Nat} (h : Tr w lo e A xs) (hg : w.grownBy w' row) (hr : ∀ g C t fr, row = some g → w.heap[g]? = some (.cells C t fr) → t ≠ e) : Tr w' lo e A xs :=
  h.keep fun g C _ hC => hg.block g (Array.getElem?_eq_some_iff.1 hC).1 fun he => hr g C e (0, 0) he.symm hC rfl
theorem Tr.setRow (h : Tr w lo e A xs) {g : Nat} {C : Array Value} {t : TypeId} {fr : Nat × Nat} (hg : w.heap[g]? = some (.cells C t fr)) (ht : t ≠ e) (cs : Array Value) : Tr (w.setRow g cs) lo e A xs :=
  h.keep fun k D _ hD => setRow_other w g k cs fun hk => by
    subst hk
    rw [hg] at hD
    injection hD with hD
    injection hD with _ h2
    exact ht h2
theorem Tr.own {base n c k : Nat} (h : w.ownsRow base e k (.slice A n c) n xs) : Tr w base e A xs := by
  intro j u hu
  rcases h.2 with ⟨he, hn⟩ | ⟨g, cap, cur, he, h1, h2, _, _, _, h3⟩
  · have := h.1
    have hk := (List.getElem?_eq_some_iff.1 hu).1
    rw [hn, Nat.zero_mul] at this
    omega
  · injection he with e1 e2 e3
    subst e1
    refine ⟨g, 0, cur, rfl, h1, h2, ?_⟩
    rw [← h3, List.getElem?_take] at hu
    split at hu
    · simpa using hu
    · cases hu
theorem Tr.sub (h : Tr w lo e A xs) (d n : Nat) : Tr w lo e (A.map (·.add d)) ((xs.drop d).take n) := by
  intro k u hu
  rw [List.getElem?_take] at hu
  split at hu
  · rw [List.getElem?_drop] at hu
    obtain ⟨g, o, C, rfl, h1, h2, h3⟩ := h _ u hu
    refine ⟨g, o + d, C, ?_, h1, h2, by rw [Nat.add_assoc]; exact h3⟩
    rw [Option.map_some, Addr.add_mid]
  · cases hu
end

/-- a new block of cells -/
theorem tr_new (w : World) (cs : List Value) (e : TypeId) (lo : Nat) (h : lo ≤ w.heap.size) : Tr (w.alloc (.cells cs.toArray e)) lo e (some ⟨w.heap.size, 0, none⟩) cs := by
  intro k u hu
  exact ⟨w.heap.size, 0, cs.toArray, rfl, h, heap_alloc_new w _, by simpa using hu⟩

section
variable {P : Program}
/-- a struct, or an array, read out of whatever place -/
theorem run_loadVar_any (w : World) (ad : Addr) (ty : TypeId) (cs : List Value) (d : TypeDesc) (hc : ∀ j v, cs[j]? = some v → w.cell? (ad.add j) = some v)
    (hu : P.underlying ty = some d) (hd : d.isRow = true) (hi : (P.info? ty).map (·.size) = some cs.length) :
    (loadVar ty ad).run P w = .ok (.agg cs.toArray) w := by
  have hl : (loadCells ad cs.length).run P w = .ok cs.toArray w := run_loadCells_list (P := P) w ad cs hc
  cases hq : P.info? ty with
  | none => simp [hq] at hi
  | some i =>
    have hs : i.size = cs.length := by simpa [hq] using hi
    have hagg : (isAgg ty).run P w = .ok true w := by
      unfold isAgg
      rw [Sem.run_bind, run_underlying hu w]
      cases d <;> simp_all
    simp [loadVar, Sem.run_bind, hagg, sizeOf, typeInfo, hq, hs, hl]
theorem wp_load_at {op : Oper} {a : Act} {w : World} {K : Act → World → Prop} {Q : Exit → Act → World → Prop} (ty : TypeId) (x : Operand) (ho : op.op = .load ty x)
    (ad : Addr) (hx : a.eval x = .pointer (some ad)) (cs : List Value) (d : TypeDesc) (hc : ∀ j v, cs[j]? = some v → w.cell? (ad.add j) = some v)
    (hu : P.underlying ty = some d) (hd : d.isRow = true) (hi : (P.info? ty).map (·.size) = some cs.length)
    (h : K (a.put op.dst (.agg cs.toArray)) w) : op.wp P a w K Q := by
  unfold Oper.wp execOp
  simp only [ho, hx, Instr.loadAt, Instr.sureAddr, Sem.run_bind, Sem.run_pure, Result.andThen_ok, run_loadVar_any w ad ty cs d hc hu hd hi]
  exact h
theorem wpList_load_at {ops : Array Oper} {rest : List Oper} {op : Oper} {a : Act} {w : World} {Q : Exit → Act → World → Prop} (hgd : op.guard = none) (ty : TypeId) (x : Operand) (ho : op.op = .load ty x)
    (ad : Addr) (hx : a.eval x = .pointer (some ad)) (cs : List Value) (d : TypeDesc) (hc : ∀ j v, cs[j]? = some v → w.cell? (ad.add j) = some v)
    (hu : P.underlying ty = some d) (hd : d.isRow = true) (hi : (P.info? ty).map (·.size) = some cs.length)
    (h : wpList P ops Q rest (a.put op.dst (.agg cs.toArray)) w) : wpList P ops Q (op :: rest) a w :=
  wpList_plain hgd fun _ hK => wp_load_at ty x ho ad hx cs d hc hu hd hi (hK _ _ h)
/-- an element's cells, out of a row that is read -/
theorem _root_.Go.Proofs.Ytjgdmkmfnkaoaaa.Rd.elem {w : World} {lo hi k : Nat} {ad : Addr} {xs : List Value} (h : Rd w lo hi (some ad) xs) (i : Nat) :
    ∀ j v, ((xs.drop (i * k)).take k)[j]? = some v → w.cell? ((ad.add (i * k)).add j) = some v := by
  intro j v hv
  rw [List.getElem?_take] at hv
  split at hv
  · rw [List.getElem?_drop] at hv
    obtain ⟨ad', e, _, _, hc⟩ := h _ v hv
    cases e
    rw [add_twice]
    exact hc
  · cases hv

/-- a whole value laid into a new variable -/
theorem wpList_store_new {ops : Array Oper} {rest : List Oper} {o : Oper} {a : Act} {Q : Exit → Act → World → Prop} (hgd : o.guard = none) (ty : TypeId) (x y : Operand) (ho : o.op = .store ty x y)
    (w0 : World) (zs cs : Array Value) (hx : a.eval x = .pointer (some ⟨w0.heap.size, 0, none⟩)) (hy : a.eval y = .agg cs) (hi : (P.info? ty).map (·.size) = some cs.size) (hs : zs.size = cs.size) (h1 : cs.all (·.oneCell') = true)
    (h : wpList P ops Q rest (a.put o.dst undef) (w0.alloc (.cells cs ty))) : wpList P ops Q (o :: rest) a (w0.alloc (.cells zs ty)) := by
  refine wpList_store_row hgd ty x y ho w0.heap.size cs hx hy ty zs (heap_alloc_new w0 _) hi hs h1 ?_
  rw [World.setRow_alloc_new]
  exact h
theorem wpList_load_rowg {ops : Array Oper} {rest : List Oper} {o : Oper} {a : Act} {w : World} {Q : Exit → Act → World → Prop} (hg : Region.wanted o (yielded ops a.tmps) = true) (ty : TypeId) (x : Operand) (ho : o.op = .load ty x) (g : Nat) (hx : a.eval x = .pointer (some ⟨g, 0, none⟩))
    (t : TypeId) (cs : Array Value) (fr : Nat × Nat) (d : TypeDesc) (hgg : w.heap[g]? = some (.cells cs t fr)) (hu : P.underlying ty = some d) (hd : d.isRow = true) (hi : (P.info? ty).map (·.size) = some cs.size)
    (h : wpList P ops Q rest (a.put o.dst (.agg cs)) w) : wpList P ops Q (o :: rest) a w :=
  wpList_wanted hg fun _ hK => wp_load_row ty x ho g hx t cs fr d hgg hu (by cases d <;> first | rfl | cases hd) hi (hK _ _ h)
theorem all_one {cs : List Value} (h : ∀ u ∈ cs, u.oneCell' = true) : cs.toArray.all (·.oneCell') = true :=
  Array.all_eq_true_iff_forall_mem.2 fun v hv => h v (by simpa using hv)

/-- a slice literal of one struct -/
theorem run_build_one (w : World) (t e : TypeId) (cs : Array Value) (hu : P.underlying t = some (.slice e)) (k : Nat) (hk : 0 < k) (hk2 : k ≤ 1000) (hi : (P.info? e).map (fun i => (i.zero.isSome, i.size)) = some (true, k)) (hc : cs.size = k) :
    (Instr.buildSlice t 1 #[(0, .agg cs)]).run P w = .ok (.slice (some ⟨w.heap.size, 0, none⟩) 1 1) (w.alloc (.cells cs e)) := by
  cases hie : P.info? e with
  | none => simp [hie] at hi
  | some ie =>
    simp only [hie, Option.map_some, Option.some.injEq, Prod.mk.injEq] at hi
    obtain ⟨z, hz⟩ := Option.isSome_iff_exists.1 hi.1
    refine run_buildSlice w t e 1 _ cs ie z hu hie hz (by rw [hi.2]; omega) (by rw [hi.2]; omega) ?_
    have := Great.fill_whole hk [.agg cs] ((Array.range (1 * ie.size)).map (z.cells[· % z.cells.size]!)) (by simp [Value.cells, hc]) (by simp [hi.2])
    rw [hi.2] at this ⊢
    simpa [Value.cells] using this
theorem wpList_build_one {ops : Array Oper} {rest : List Oper} {o : Oper} {a : Act} {w : World} {Q : Exit → Act → World → Prop} (hg : o.guard = none) (t e : TypeId) (x : Operand) (ho : o.op = .buildSlice t 1 #[(0, x)])
    (cs : Array Value) (hx : a.eval x = .agg cs) (hu : P.underlying t = some (.slice e)) (k : Nat) (hk : 0 < k) (hk2 : k ≤ 1000) (hi : (P.info? e).map (fun i => (i.zero.isSome, i.size)) = some (true, k)) (hc : cs.size = k)
    (h : wpList P ops Q rest (a.put o.dst (.slice (some ⟨w.heap.size, 0, none⟩) 1 1)) (w.alloc (.cells cs e))) : wpList P ops Q (o :: rest) a w := by
  refine wpList_plain hg fun K hK => ?_
  unfold Oper.wp execOp
  simp [ho, hx, run_build_one w t e cs hu k hk hk2 hi hc]
  exact hK _ _ h

/-- the same at an operation, for regions that draw their order -/
theorem run_buildE {ev : Operand → Value} {o : Oper} {w w' : World} (t : TypeId) (x : Operand) (ho : o.op = .buildSlice t 1 #[(0, x)]) {cs : Array Value} (hx : ev x = .agg cs) {v : Value} (hr : (Instr.buildSlice t 1 #[(0, .agg cs)]).run P w = .ok v w') : (execOp ev o).run P w = .ok (.value v) w' := by
  unfold execOp
  simp [ho, hx, hr]
theorem run_appendE {ev : Operand → Value} {o : Oper} {w w' : World} (s x : Operand) (t : TypeId) (ho : o.op = .call { callee := .builtin .append, args := #[s, x], argTypes := #[t, t] }) {vs vx v : Value} (hs : ev s = vs) (hx : ev x = vx)
    (hr : (Builtin.append_ #[t, t] o.type #[vs, vx]).run P w = .ok v w') : (execOp ev o).run P w = .ok (.value v) w' := by
  unfold execOp
  simp only [ho, resolve, invoke, builtin, Sem.run_bind, Sem.run_pure, Result.andThen_ok, List.map_toArray, List.map_cons, List.map_nil, hs, hx, hr]
/-- a part of a slice -/
theorem run_slice_lh (t e : TypeId) (size : Nat) (hu : P.underlying t = some (.slice e)) (hi : (P.info? e).map (·.size) = some size) (A : Option Addr) (len cap l h : Nat) (h1 : l ≤ h) (h2 : h ≤ cap) (w : World) :
    (Instr.slice t (.slice A len cap) (some (.int .i64 (l : Int))) (some (.int .i64 (h : Int))) none).run P w = .ok (.slice (if cap = l then A else A.map (·.add (l * size))) (h - l) (cap - l)) w := by
  cases hie : P.info? e with
  | none => simp [hie] at hi
  | some ie =>
    simp only [hie, Option.map_some, Option.some.injEq] at hi
    simp [Instr.slice, run_underlying hu, Instr.sliceBounds, Instr.sliceBound, asIntOf, sizeOf, typeInfo, hie, hi, h1, h2]
theorem run_slice_l (t e : TypeId) (size : Nat) (hu : P.underlying t = some (.slice e)) (hi : (P.info? e).map (·.size) = some size) (A : Option Addr) (len cap l : Nat) (h1 : l ≤ len) (w : World) :
    (Instr.slice t (.slice A len cap) (some (.int .i64 (l : Int))) none none).run P w = .ok (.slice (if cap = l then A else A.map (·.add (l * size))) (len - l) (cap - l)) w := by
  cases hie : P.info? e with
  | none => simp [hie] at hi
  | some ie =>
    simp only [hie, Option.map_some, Option.some.injEq] at hi
    simp [Instr.slice, run_underlying hu, Instr.sliceBounds, Instr.sliceBound, asIntOf, sizeOf, typeInfo, hie, hi, h1]
theorem run_slice_h (t e : TypeId) (size : Nat) (hu : P.underlying t = some (.slice e)) (hi : (P.info? e).map (·.size) = some size) (A : Option Addr) (len cap h : Nat) (h2 : h ≤ cap) (w : World) :
    (Instr.slice t (.slice A len cap) none (some (.int .i64 (h : Int))) none).run P w = .ok (.slice (if cap = 0 then A else A.map (·.add (0 * size))) h cap) w := by
  cases hie : P.info? e with
  | none => simp [hie] at hi
  | some ie =>
    simp only [hie, Option.map_some, Option.some.injEq] at hi
    simp [Instr.slice, run_underlying hu, Instr.sliceBounds, Instr.sliceBound, asIntOf, sizeOf, typeInfo, hie, h2]
theorem run_sliceE {ev : Operand → Value} {o : Oper} {w : World} (t : TypeId) (x : Operand) (l h : Option Operand) (ho : o.op = .slice t x l h none) {e : TypeId} (hu : P.underlying t = some (.slice e)) {A : Option Addr} {n c : Nat} (hx : ev x = .slice A n c) {v : Value} (hr : (Instr.slice t (.slice A n c) (l.map ev) (h.map ev) none).run P w = .ok v w) : (execOp ev o).run P w = .ok (.value v) w := by
  unfold execOp
  simp [ho, hx, Instr.sliceAt, run_underlying hu, hr]
/-- the place of an element -/
theorem run_indexE {ev : Operand → Value} {o : Oper} {w : World} (t : TypeId) (x i : Operand) (ho : o.op = .indexAddr t x i) {e : TypeId} (hu : P.underlying t = some (.slice e)) {size : Nat} (hi : (P.info? e).map (·.size) = some size) {ad : Addr} {n c j : Nat}
    (hx : ev x = .slice (some ad) n c) (hj : ev i = .int .i64 (j : Int)) (h : j < n) : (execOp ev o).run P w = .ok (.value (.pointer (some (ad.add (j * size))))) w := by
  cases hie : P.info? e with
  | none => simp [hie] at hi
  | some ie =>
    simp only [hie, Option.map_some, Option.some.injEq] at hi
    unfold execOp
    simp [ho, hx, hj, Instr.indexAt, run_underlying hu, asIntOf, sizeOf, typeInfo, hie, hi, h]
/-- the bytes of a part of a slice -/
theorem _root_.Go.Proofs.Ytjgdmkmfnkaoaaa.Rd.part {w : World} {lo hi size : Nat} {A : Option Addr} {xs : List Value} (h : Rd w lo hi A xs) (cap l n : Nat) (hc : cap = l → xs.drop (l * size) = []) : Rd w lo hi (if cap = l then A else A.map (·.add (l * size))) ((xs.drop (l * size)).take n) := by
  split
  · rename_i he
    rw [hc he]
    simpa using Rd.nil
  · exact (h.drop (l * size)).take n
/-- 'append(s, x)', s the call's own, x one struct that lies in a block -/
theorem wpList_append_elem {w : World} {ops : Array Oper} {rest : List Oper} {o : Oper} {a : Act} {Q : Exit → Act → World → Prop} (hgd : o.guard = none) (s x : Operand) (t : TypeId)
    (ho : o.op = .call { callee := .builtin .append, args := #[s, x], argTypes := #[t, t] })
    (base : Nat) (e : TypeId) (i : TypeInfo) (z : Value) (size bytes : Nat) (ht : P.underlying t = some (.slice e)) (hi : P.info? e = some i) (hz : i.zero = some z)
    (hsize : i.size = size) (hby : i.bytes = bytes) (hzs : z.cells.size = size) (hsz : 0 < size)
    (v : Value) (n : Nat) (xs : List Value) (hs : a.eval s = v) (hown : w.ownsRow base e size v n xs)
    (g c : Nat) (cs : Array Value) (t' : TypeId) (fr : Nat × Nat) (hx : a.eval x = .slice (some ⟨g, 0, none⟩) 1 c) (hg : w.heap[g]? = some (.cells cs t' fr)) (hcs : cs.size = size) (h1 : ∀ u ∈ cs.toList, u.oneCell' = true)
    (h63 : n + 1 ≤ maxLen) (hbytes : (n + 1) * bytes ≤ 140737488355328) (hbase : base ≤ w.heap.size)
    (h : ∀ v' w', w'.ownsRow base e size v' (n + 1) (xs ++ cs.toList) → w.grownBy w' v.ownBlock → (v'.ownBlock = v.ownBlock ∨ v'.ownBlock = some w.heap.size) → wpList P ops Q rest (a.put o.dst v') w') :
    wpList P ops Q (o :: rest) a w :=
  wpList_append_own_at w hgd s x t ho base e i z size bytes ht hi hz hsize hby hzs hsz v n xs hs hown ⟨g, 0, none⟩ 1 c cs.toList hx (by simp [hcs])
    (fun j u hu => by rw [Addr.add_mid, cell_of_row _ _ _ _ _ _ hg, Nat.zero_add]; simpa using hu) h1 h63 hbytes hbase fun v' w' h2 h3 _ h5 => h v' w' h2 h3 h5
theorem append_elem {w : World} (base : Nat) (t ty e : TypeId) (i : TypeInfo) (z : Value) (size bytes : Nat) (ht : P.underlying t = some (.slice e)) (hi : P.info? e = some i) (hz : i.zero = some z)
    (hsize : i.size = size) (hby : i.bytes = bytes) (hzs : z.cells.size = size) (hsz : 0 < size)
    (v : Value) (n : Nat) (xs : List Value) (hown : w.ownsRow base e size v n xs)
    (g c : Nat) (cs : Array Value) (t' : TypeId) (fr : Nat × Nat) (hg : w.heap[g]? = some (.cells cs t' fr)) (hcs : cs.size = size) (h1 : ∀ u ∈ cs.toList, u.oneCell' = true)
    (h63 : n + 1 ≤ maxLen) (hbytes : (n + 1) * bytes ≤ 140737488355328) (hbase : base ≤ w.heap.size) :
    ∃ v' w', (Builtin.append_ #[t, t] ty #[v, .slice (some ⟨g, 0, none⟩) 1 c]).run P w = .ok v' w' ∧ w'.ownsRow base e size v' (n + 1) (xs ++ cs.toList) ∧ w.grownBy w' v.ownBlock ∧ (v'.ownBlock = v.ownBlock ∨ v'.ownBlock = some w.heap.size) := by
  obtain ⟨v', w', hr, h2, h3, _, h5⟩ := run_append_own_at (P := P) w base t ty e i z size bytes ht hi hz hsize hby hzs hsz v n xs hown ⟨g, 0, none⟩ 1 c cs.toList (by simp [hcs])
    (fun j u hu => by rw [Addr.add_mid, cell_of_row _ _ _ _ _ _ hg, Nat.zero_add]; simpa using hu) h1 h63 hbytes hbase
  exact ⟨v', w', hr, h2, h3, h5⟩
/-- 'append(s, xs...)', s the call's own, xs read, nil or not, k cells an element -/
theorem run_append_rdk {w : World} (base : Nat) (t ty e : TypeId) (i : TypeInfo) (z : Value) (size bytes : Nat) (ht : P.underlying t = some (.slice e)) (hi : P.info? e = some i) (hz : i.zero = some z)
    (hsize : i.size = size) (hby : i.bytes = bytes) (hzs : z.cells.size = size) (hsz : 0 < size)
    (v : Value) (n : Nat) (xs : List Value) (hown : w.ownsRow base e size v n xs)
    (A : Option Addr) (m c : Nat) (news : List Value) (hA : A = none → c = 0) (hl : news.length = m * size) {lo hi' : Nat} (hrd : Rd w lo hi' A news) (h1 : ∀ u ∈ news, u.oneCell' = true)
    (h63 : n + m ≤ maxLen) (hbytes : (n + m) * bytes ≤ 140737488355328) (hbase : base ≤ w.heap.size) :
    ∃ v' w', (Builtin.append_ #[t, t] ty #[v, .slice A m c]).run P w = .ok v' w' ∧ w'.ownsRow base e size v' (n + m) (xs ++ news) ∧ w.grownBy w' v.ownBlock ∧ (v'.ownBlock = v.ownBlock ∨ v'.ownBlock = some w.heap.size) := by
  rcases A with _ | ad
  · have e0 : news = [] := by
      rcases news with _ | ⟨u, r⟩
      · rfl
      · obtain ⟨ad, e, _⟩ := hrd 0 u rfl
        cases e
    subst e0
    have hm : m = 0 := by
      rcases Nat.eq_zero_or_pos m with h | h
      · exact h
      · have := Nat.mul_pos h hsz
        simp at hl
        omega
    have hc : c = 0 := hA rfl
    subst hm hc
    exact ⟨v, w, run_append_owned_none (P := P) (w := w) base t ty e i size ht hi v n xs hown, by simpa using hown, World.grownBy.refl w _, .inl rfl⟩
  · obtain ⟨v', w', hr, h2, h3, _, h5⟩ := run_append_own_at (P := P) w base t ty e i z size bytes ht hi hz hsize hby hzs hsz v n xs hown ad m c news hl (fun j u hu => by
      obtain ⟨ad', e', _, _, hc⟩ := hrd j u hu
      cases e'
      exact hc) h1 h63 hbytes hbase
    exact ⟨v', w', hr, h2, h3, h5⟩
theorem wpList_append_rdk {w : World} {ops : Array Oper} {rest : List Oper} {o : Oper} {a : Act} {Q : Exit → Act → World → Prop} (hgd : o.guard = none) (s x : Operand) (t : TypeId)
    (ho : o.op = .call { callee := .builtin .append, args := #[s, x], argTypes := #[t, t] })
    (base : Nat) (e : TypeId) (i : TypeInfo) (z : Value) (size bytes : Nat) (ht : P.underlying t = some (.slice e)) (hi : P.info? e = some i) (hz : i.zero = some z)
    (hsize : i.size = size) (hby : i.bytes = bytes) (hzs : z.cells.size = size) (hsz : 0 < size)
    (v : Value) (n : Nat) (xs : List Value) (hs : a.eval s = v) (hown : w.ownsRow base e size v n xs)
    (A : Option Addr) (m c : Nat) (news : List Value) (hx : a.eval x = .slice A m c) (hA : A = none → c = 0) (hl : news.length = m * size) {lo hi' : Nat} (hrd : Rd w lo hi' A news) (h1 : ∀ u ∈ news, u.oneCell' = true)
    (h63 : n + m ≤ maxLen) (hbytes : (n + m) * bytes ≤ 140737488355328) (hbase : base ≤ w.heap.size)
    (h : ∀ v' w', w'.ownsRow base e size v' (n + m) (xs ++ news) → w.grownBy w' v.ownBlock → (v'.ownBlock = v.ownBlock ∨ v'.ownBlock = some w.heap.size) → wpList P ops Q rest (a.put o.dst v') w') :
    wpList P ops Q (o :: rest) a w := by
  refine wpList_plain hgd fun K hK => ?_
  obtain ⟨v', w', hr, h2, h3, h4⟩ := run_append_rdk (P := P) (w := w) base t o.type e i z size bytes ht hi hz hsize hby hzs hsz v n xs hown A m c news hA hl hrd h1 h63 hbytes hbase
  unfold Oper.wp execOp
  simp only [ho, resolve, invoke, builtin, Sem.run_bind, Sem.run_pure, Result.andThen_ok, List.map_toArray, List.map_cons, List.map_nil, hs, hx, hr]
  exact hK _ _ (h v' w' h2 h3 h4)
end

/-- what a call owns, over what lies below -/
theorem ownk_below {w w1 : World} {base B k : Nat} {e : TypeId} {v : Value} {n : Nat} {xs : List Value} (h : w.ownsRow base e k v n xs) (hb : Below B w w1) (hB : w.heap.size ≤ B) : w1.ownsRow base e k v n xs := by
  refine ⟨h.1, ?_⟩
  rcases h.2 with ⟨rfl, rfl⟩ | ⟨g, cap, cur, rfl, h1, h2, h3⟩
  · exact .inl ⟨rfl, rfl⟩
  · have hlt := (h.lt g rfl).2
    exact .inr ⟨g, cap, cur, rfl, h1, (hb.block g (by omega)).trans h2, h3⟩
theorem ownk_base {w : World} {b1 b2 k : Nat} {e : TypeId} {v : Value} {n : Nat} {xs : List Value} (h : w.ownsRow b1 e k v n xs) (hb : b2 ≤ b1) : w.ownsRow b2 e k v n xs := by
  refine ⟨h.1, ?_⟩
  rcases h.2 with h | ⟨g, cap, cur, e, h1, h2⟩
  · exact .inl h
  · exact .inr ⟨g, cap, cur, e, by omega, h2⟩
theorem ownk_form {w : World} {base k : Nat} {e : TypeId} {v : Value} {n : Nat} {xs : List Value} (h : w.ownsRow base e k v n xs) : ∃ A c, v = .slice A n c ∧ n ≤ c ∧ c ≤ maxLen ∧ (A = none → c = 0) := by
  rcases h.2 with ⟨rfl, rfl⟩ | ⟨g, cap, cur, rfl, _, _, h3, h4, _⟩
  · exact ⟨none, 0, rfl, Nat.le_refl _, Nat.zero_le _, fun _ => rfl⟩
  · exact ⟨_, _, rfl, h3, h4, fun h => by cases h⟩
theorem ownk_some {w : World} {base k : Nat} {e : TypeId} {v : Value} {n : Nat} {xs : List Value} (h : w.ownsRow base e k v n xs) (hn : 0 < n) : ∃ (g c : Nat) (cur : Array Value), v = .slice (some ⟨g, 0, none⟩) n c ∧ base ≤ g ∧ w.heap[g]? = some (.cells cur e (0, 0)) ∧ n ≤ c ∧ c ≤ maxLen ∧ cur.size = c * k ∧ cur.toList.take (n * k) = xs := by
  rcases h.2 with ⟨_, h0⟩ | ⟨g, cap, cur, h⟩
  · omega
  · exact ⟨g, cap, cur, h⟩
theorem ownk_setCell_other {w : World} {base k : Nat} {e : TypeId} {v : Value} {n : Nat} {xs : List Value} (h : w.ownsRow base e k v n xs) {p : Addr} (hp : ∀ b, v.ownBlock = some b → b ≠ p.block) (u : Value) : (w.setCell p u).ownsRow base e k v n xs := by
  refine ⟨h.1, ?_⟩
  rcases h.2 with h | ⟨g, cap, cur, rfl, h1, h2, h3⟩
  · exact .inl h
  · exact .inr ⟨g, cap, cur, rfl, h1, (heap_setCell_other _ _ _ _ (hp g rfl)).trans h2, h3⟩
theorem ownk_cells_of {w : World} {base k : Nat} {e : TypeId} {v : Value} {n : Nat} {xs : List Value} (h : w.ownsRow base e k v n xs) {g : Nat} (hv : v.ownBlock = some g) : ∃ C, w.heap[g]? = some (.cells C e (0, 0)) := by
  rcases h.2 with ⟨rfl, rfl⟩ | ⟨g', cap, cur, rfl, _, h2, _⟩
  · cases hv
  · simp [Value.ownBlock] at hv
    subst hv
    exact ⟨_, h2⟩
/-- the element type of a row that is owned -/
theorem ownk_type {w : World} {base k : Nat} {e : TypeId} {v : Value} {n : Nat} {xs : List Value} (h : w.ownsRow base e k v n xs) {g : Nat} (hv : v.ownBlock = some g) {C : Array Value} {t : TypeId} {fr : Nat × Nat} (hg : w.heap[g]? = some (.cells C t fr)) : t = e := by
  rcases h.2 with ⟨rfl, rfl⟩ | ⟨g', cap, cur, rfl, _, h2, _⟩
  · cases hv
  · simp [Value.ownBlock] at hv
    subst hv
    rw [hg] at h2
    injection h2 with h2
    injection h2


theorem beqT {a b : Int} (h : a = b) : (a == b) = true := by simp [h]
theorem beqF {a b : Int} (h : a ≠ b) : (a == b) = false := by simp [h]
theorem bneT {a b : Int} (h : a ≠ b) : (a != b) = true := by simp [h]
theorem bneF {a b : Int} (h : a = b) : (a != b) = false := by simp [h]

structure Pk where
  id : Nat
  more : Bool
  off : Int
  ttl : UInt8
  proto : UInt8
  src : List UInt8
  dst : List UInt8
  data : List UInt8

def Pk.zero : Pk := ⟨0, false, 0, 0, 0, [0, 0, 0, 0], [0, 0, 0, 0], []⟩
def Pk.ok (p : Pk) : Prop := p.id < 65536 ∧ p.src.length = 4 ∧ p.dst.length = 4
/-- are two packets one? -/
def pkEq (p q : Pk) : Bool := decide (p.id = q.id ∧ p.more = q.more ∧ p.off = q.off ∧ p.ttl = q.ttl ∧ p.proto = q.proto ∧ p.src = q.src ∧ p.dst = q.dst ∧ p.data = q.data)
theorem pkEq_iff (p q : Pk) : pkEq p q = true ↔ p = q := by
  obtain ⟨a1, a2, a3, a4, a5, a6, a7, a8⟩ := p
  obtain ⟨b1, b2, b3, b4, b5, b6, b7, b8⟩ := q
  simp [pkEq]
theorem pkEq_self (p : Pk) : pkEq p p = true := (pkEq_iff p p).2 rfl

theorem four_of (l : List UInt8) (h : l.length = 4) : ∃ x0 x1 x2 x3, l = [x0, x1, x2, x3] :=
  match l, h with
  | [x0, x1, x2, x3], _ => ⟨x0, x1, x2, x3, rfl⟩
/-- a packet's cells, the data as v -/
def pkC (p : Pk) (v : Value) : List Value := .int .u16 p.id :: .bool p.more :: .int .i64 p.off :: .int .u8 (p.ttl.toNat : Int) :: .int .u8 (p.proto.toNat : Int) :: (cells p.src ++ cells p.dst ++ [v])
/-- cells that read as a packet -/
def PkV (w : World) (lo hi : Nat) (cs : Array Value) (p : Pk) : Prop :=
  ∃ A c, cs = (pkC p (.slice A p.data.length c)).toArray ∧ p.ok ∧ (-9223372036854775808 ≤ p.off ∧ p.off ≤ 9223372036854775807) ∧ Rd w lo hi A (cells p.data) ∧ p.data.length ≤ c ∧ c ≤ maxLen ∧ (A = none → c = 0)
theorem PkV.below {w w' : World} {lo hi B : Nat} {cs : Array Value} {p : Pk} (h : PkV w lo hi cs p) (hb : Below B w w') (hB : hi ≤ B) : PkV w' lo hi cs p := by
  obtain ⟨A, c, e, h1, h0, h2, h3⟩ := h
  exact ⟨A, c, e, h1, h0, h2.below hb hB, h3⟩
theorem PkV.wide {w : World} {lo hi lo' hi' : Nat} {cs : Array Value} {p : Pk} (h : PkV w lo hi cs p) (h1 : lo' ≤ lo) (h2 : hi ≤ hi') : PkV w lo' hi' cs p := by
  obtain ⟨A, c, e, h3, h0, h4, h5⟩ := h
  exact ⟨A, c, e, h3, h0, h4.wide h1 h2, h5⟩
theorem pkC_size {p : Pk} (h : p.ok) (v : Value) : (pkC p v).toArray.size = 14 := by
  obtain ⟨_, h1, h2⟩ := h
  simp [pkC, cells_length, h1, h2]
theorem PkV.size {w : World} {lo hi : Nat} {cs : Array Value} {p : Pk} (h : PkV w lo hi cs p) : cs.size = 14 := by
  obtain ⟨A, c, rfl, h1, _⟩ := h
  exact pkC_size h1 _
theorem pkC_13 {p : Pk} (h : p.ok) (v : Value) : (pkC p v)[13]? = some v := by
  obtain ⟨_, h1, h2⟩ := h
  simp [pkC, cells_length, h1, h2]
theorem pkC_src (p : Pk) (v : Value) : ∀ (k : Nat) u, (cells p.src)[k]? = some u → (pkC p v)[5 + k]? = some u := by
  intro k u hu
  have hk := (List.getElem?_eq_some_iff.1 hu).1
  rw [show 5 + k = k + 1 + 1 + 1 + 1 + 1 from by omega]
  simp only [pkC, List.getElem?_cons_succ]
  rw [List.append_assoc, List.getElem?_append_left hk]
  exact hu
theorem pkC_dst {p : Pk} (h : p.ok) (v : Value) : ∀ (k : Nat) u, (cells p.dst)[k]? = some u → (pkC p v)[9 + k]? = some u := by
  intro k u hu
  have hk := (List.getElem?_eq_some_iff.1 hu).1
  have hs : (cells p.src).length = 4 := by rw [cells_length]; exact h.2.1
  rw [show 9 + k = (4 + k) + 1 + 1 + 1 + 1 + 1 from by omega]
  simp only [pkC, List.getElem?_cons_succ]
  rw [List.append_assoc, List.getElem?_append_right (by omega), hs, show 4 + k - 4 = k from by omega, List.getElem?_append_left hk]
  exact hu
theorem zero_pkV (w : World) (lo hi : Nat) : PkV w lo hi #[.int .u16 0, .bool false, .int .i64 0, .int .u8 0, .int .u8 0, .int .u8 0, .int .u8 0, .int .u8 0, .int .u8 0, .int .u8 0, .int .u8 0, .int .u8 0, .int .u8 0, .slice none 0 0] Pk.zero :=
  ⟨none, 0, rfl, ⟨by decide, rfl, rfl⟩, ⟨by decide, by decide⟩, Rd.nil, Nat.le_refl _, Nat.zero_le _, fun _ => rfl⟩

/-- a piece of a block as a slice's cells -/
theorem rd_mid {w : World} {b o : Nat} {cs : Array Value} {t : TypeId} {fr : Nat × Nat} {xs : List Value} (hg : w.heap[b]? = some (.cells cs t fr)) (h : ∀ (k : Nat) u, xs[k]? = some u → cs[o + k]? = some u) :
    Rd w b (b + 1) (some ⟨b, o, none⟩) xs := by
  intro k u hu
  refine ⟨_, rfl, Nat.le_refl _, Nat.lt_succ_self _, ?_⟩
  have e : ((⟨b, o, none⟩ : Addr).add k) = ⟨b, o + k, none⟩ := by
    unfold Addr.add
    by_cases hk : k = 0 <;> simp [hk]
  rw [e, cell_of_row _ _ _ cs t fr hg]
  exact h k u hu
theorem row_lt {w : World} {b : Nat} {o : Obj} (h : w.heap[b]? = some o) : b < w.heap.size := (Array.getElem?_eq_some_iff.1 h).1
theorem old_alloc {w : World} {b : Nat} {o : Obj} (h : w.heap[b]? = some o) (o2 : Obj) : (w.alloc o2).heap[b]? = some o := (Below.heap_alloc _ _ _ (row_lt h)).trans h

theorem size_pk {cs : Array Value} (h : cs.size = 14) : (Try.prog.info? 60).map (·.size) = some cs.size := by
  rw [h]
  kernel_rfl
theorem PkV.one {w : World} {lo hi : Nat} {cs : Array Value} {p : Pk} (h : PkV w lo hi cs p) : cs.all (·.oneCell') = true := by
  obtain ⟨A, c, rfl, _⟩ := h
  refine all_one fun u hu => ?_
  simp only [pkC, List.mem_append, List.mem_cons, List.not_mem_nil, or_false] at hu
  rcases hu with rfl | rfl | rfl | rfl | rfl | (hu | hu) | rfl
  · rfl
  · rfl
  · rfl
  · rfl
  · rfl
  · exact cells_one _ u hu
  · exact cells_one _ u hu
  · rfl
theorem PkV.ok {w : World} {lo hi : Nat} {cs : Array Value} {p : Pk} (h : PkV w lo hi cs p) : p.ok := by
  obtain ⟨A, c, rfl, h, _⟩ := h
  exact h
theorem PkV.alloc {w : World} {lo hi : Nat} {cs : Array Value} {p : Pk} (h : PkV w lo hi cs p) (hB : hi ≤ w.heap.size) (o : Obj) : PkV (w.alloc o) lo hi cs p := by
  obtain ⟨A, c, e, h1, h0, h2, h3⟩ := h
  exact ⟨A, c, e, h1, h0, h2.alloc hB o, h3⟩
/-- a packet's fields among its cells -/
theorem PkV.parts {w : World} {lo hi : Nat} {cs : Array Value} {p : Pk} (h : PkV w lo hi cs p) : ∃ A c, cs[1]? = some (.bool p.more) ∧ cs[3]? = some (.int .u8 (p.ttl.toNat : Int)) ∧ cs[13]? = some (.slice A p.data.length c) ∧ Rd w lo hi A (cells p.data) ∧ p.data.length ≤ c ∧ c ≤ maxLen ∧ (A = none → c = 0) := by
  obtain ⟨A, c, rfl, h1, _, h3⟩ := h
  exact ⟨A, c, rfl, rfl, by rw [List.getElem?_toArray]; exact pkC_13 h1 _, h3⟩
theorem load_pk {w : World} {g : Nat} {t : TypeId} {cs : Array Value} (hg : w.heap[g]? = some (.cells cs t (0, 0))) (hs : cs.size = 14) : (loadVar 60 ⟨g, 0, none⟩).run Try.prog w = .ok (.agg cs) w :=
  run_loadVar_row w g t 60 cs (0, 0) _ hg Try.underlying60 rfl (by rw [hs]; kernel_rfl)


theorem info_u8 : (Try.prog.info? 5).map (fun i => (i.zero, i.size, i.bytes)) = some (some (.int .u8 0), 1, 1) := by kernel_rfl
theorem ret_one {P : Program} {fn : Func} {R : Ending → World → Prop} {a : Act} {w : World} {p : Tmp} {ty : TypeId} {g : Nat} {cs : Array Value} {t : TypeId} {fr : Nat × Nat} {d : TypeDesc} (h : fn.results = #[.cell p ty]) (hp : a.tmps.getD p undef = .pointer (some ⟨g, 0, none⟩))
    (hg : w.heap[g]? = some (.cells cs t fr)) (hu : P.underlying ty = some d) (hd : d.isRow = true) (hi : (P.info? ty).map (·.size) = some cs.size) (hdf : a.defers = []) (hR : R (.returned (.agg cs)) w) : bodyPost P fn R .ret a w := by
  refine bodyPost_ret (v := .agg cs) ?_ hdf hR
  exact results_cell_row h a.tmps w g t cs fr d hp hg hu (by cases d <;> first | rfl | cases hd) hi

theorem below_setRow {B : Nat} {w w1 : World} (h : Below B w w1) {g : Nat} (hg : B ≤ g) (cs : Array Value) : Below B w (w1.setRow g cs) :=
  ⟨h.os, h.tape, h.output, by simp [World.setRow]; exact h.size, fun k hk => (setRow_other w1 g k cs (by omega)).trans (h.block k hk)⟩
/-- bytes in rows of bytes, from block lo on -/
def TB (w : World) (lo : Nat) (l : List UInt8) (v : Value) : Prop := ∃ A c, v = .slice A l.length c ∧ Tr w lo 5 A (cells l) ∧ l.length ≤ c ∧ c ≤ maxLen ∧ (A = none → c = 0)
section
variable {w w' : World} {lo : Nat} {l : List UInt8} {v : Value}
theorem TB.keep (h : TB w lo l v) (hk : ∀ A, Tr w lo 5 A (cells l) → Tr w' lo 5 A (cells l)) : TB w' lo l v := by
  obtain ⟨A, c, e, h1, h2⟩ := h
  exact ⟨A, c, e, hk A h1, h2⟩
theorem TB.below {B : Nat} (h : TB w lo l v) (hb : Below B w w') (hB : w.heap.size ≤ B) : TB w' lo l v := h.keep fun _ h => h.below hb hB
theorem TB.wide {lo' : Nat} (h : TB w lo l v) (hl : lo' ≤ lo) : TB w lo' l v := by
  obtain ⟨A, c, e, h1, h2⟩ := h
  exact ⟨A, c, e, h1.wide hl, h2⟩
end

set_option maxRecDepth 100000 in
theorem clone_any (A : Option Addr) (l : List UInt8) (n c lo hi : Nat) (w : World) (h : Rd w lo hi A (cells l)) (hn : l.length = n) (hA : A = none → n = 0) (hhi : hi ≤ w.heap.size) (hm : n ≤ 1000000000) :
    Calls Try.prog 40 #[.slice A n c] w fun e w' => ∃ v, e = .returned v ∧ TB w' w.heap.size l v ∧ Below w.heap.size w w' := by
  obtain ⟨i0, hi0, hz0, hz1, hz2⟩ := info_parts info_u8
  have HR := Lib.hid h
  have HH := Lib.hid hhi
  have HN := Lib.hid hn
  clear h hhi hn
  have hnil := Lib.run_eql_slice_nil (P := Try.prog) w 24 5 A n c 0 0 Try.underlying24
  rcases A with _ | ad
  · have HL : Hid (l = []) := List.eq_nil_of_length_eq_zero (HN.out.trans (hA rfl))
    clear hA
    go_enter Try.func40, Try.ntmps40
    go_wp2
    go_ret
    exact ⟨_, rfl, ⟨none, 0, by rw [HL.out]; rfl, by rw [HL.out]; exact Tr.nil, by rw [HL.out]; exact Nat.le_refl _, Nat.zero_le _, fun _ => rfl⟩, Below.refl _ _⟩
  · clear hA
    go_enter Try.func40, Try.ntmps40
    go_wp2_with (at_builtin; refine wpList_append_rd rfl _ _ 24 rfl w.heap.size 5 i0 (.int .u8 0) 1 Try.underlying24 hi0 hz0 hz1 hz2 rfl _ _ _ rfl (own_lit _ [] _ _ w.heap.size 0 (by simp) (by simp) (by unfold maxLen; omega) rfl) (some ad) n c (cells l) rfl (fun h => by cases h) (by rw [cells_length]; exact HN.out) ((HR.out.alloc HH.out _)) (cells_one l) (by unfold maxLen; omega) (by omega) (by simp) ?_)
    intro v2 w2 hown2 hgrow2
    have HB : Hid (Below w.heap.size w w2) := ((Below.refl w.heap.size w).alloc (Nat.le_refl _) _).grown hgrow2 (by simp) fun g hg => by simp [Value.ownBlock] at hg; omega
    obtain ⟨A5, c5, hv, h1, h2, h3⟩ := ownk_form hown2
    rw [hv] at hown2 ⊢
    have HC := Lib.hid h1
    have HM := Lib.hid h2
    have HA := Lib.hid h3
    have HO := Lib.hid (Tr.own hown2)
    clear hown2 hgrow2 hv h1 h2 h3
    go_wp2
    go_ret
    exact ⟨_, rfl, ⟨A5, c5, by rw [HN.out]; rfl, HO.out, by rw [HN.out]; have := HC.out; omega, HM.out, HA.out⟩, HB.out⟩

theorem PkV.off_cell {w : World} {lo hi : Nat} {cs : Array Value} {p : Pk} (h : PkV w lo hi cs p) : cs[2]? = some (.int .i64 p.off) := by
  obtain ⟨A, c, rfl, _⟩ := h
  rfl
theorem rd_none {w : World} {lo hi : Nat} {A : Option Addr} {l : List UInt8} (h : Rd w lo hi A (cells l)) : A = none → l.length = 0 := by
  rintro rfl
  rcases l with _ | ⟨x, r⟩
  · rfl
  · obtain ⟨ad, e, _⟩ := h.byte (k := 0) (by simp)
    cases e
theorem pkC_one (p : Pk) (v : Value) (hv : v.oneCell' = true) : ∀ u ∈ pkC p v, u.oneCell' = true := by
  intro u hu
  simp only [pkC, List.mem_append, List.mem_cons, List.not_mem_nil, or_false] at hu
  rcases hu with rfl | rfl | rfl | rfl | rfl | (hu | hu) | rfl
  · rfl
  · rfl
  · rfl
  · rfl
  · rfl
  · exact cells_one _ u hu
  · exact cells_one _ u hu
  · exact hv
/-- cells that read as a packet, its data in rows of bytes from block lo on -/
def PkT (w : World) (lo : Nat) (cs : List Value) (p : Pk) : Prop := ∃ v, cs = pkC p v ∧ p.ok ∧ (-9223372036854775808 ≤ p.off ∧ p.off ≤ 9223372036854775807) ∧ TB w lo p.data v
section
variable {w w' : World} {lo : Nat} {cs : List Value} {p : Pk}
theorem PkT.below {B : Nat} (h : PkT w lo cs p) (hb : Below B w w') (hB : w.heap.size ≤ B) : PkT w' lo cs p := by
  obtain ⟨v, e, h1, h2, h3⟩ := h
  exact ⟨v, e, h1, h2, h3.below hb hB⟩
theorem PkT.pkV (h : PkT w lo cs p) : PkV w lo w.heap.size cs.toArray p := by
  obtain ⟨v, e, h1, h2, A, c, rfl, h3, h4⟩ := h
  exact ⟨A, c, by rw [e], h1, h2, h3.rd, h4⟩
theorem PkT.one (h : PkT w lo cs p) : ∀ u ∈ cs, u.oneCell' = true := by
  have := h.pkV.one
  simpa [Array.all_eq_true_iff_forall_mem] using this
theorem PkT.len (h : PkT w lo cs p) : cs.length = 14 := by simpa using h.pkV.size
end

set_option maxRecDepth 100000 in
set_option maxHeartbeats 1000000 in
theorem cut_any (cs : Array Value) (p : Pk) (m : Bool) (A : Option Addr) (l : List UInt8) (n c lo hi lo2 hi2 : Nat) (w : World) (h : PkV w lo hi cs p) (hr : Rd w lo2 hi2 A (cells l)) (hn : l.length = n) (hA : A = none → n = 0) (hhi : hi2 ≤ w.heap.size) (hm : n ≤ 1000000000) :
    Calls Try.prog 46 #[.agg cs, .slice A n c, .bool m] w fun e w' => ∃ ds, e = .returned (.agg ds) ∧ PkT w' w.heap.size ds.toList { p with more := m, data := l } ∧ Below w.heap.size w w' := by
  obtain ⟨A0, c0, he, hok, hoff, _⟩ := h
  have HOK := Lib.hid hok
  have HOF := Lib.hid hoff
  obtain ⟨id, mr, off, ttl, proto, src, dst, data⟩ := p
  obtain ⟨_, hs, hd⟩ := hok
  simp only at hs hd he
  obtain ⟨s0, s1, s2, s3, rfl⟩ := four_of src hs
  obtain ⟨d0, d1, d2, d3, rfl⟩ := four_of dst hd
  subst he
  have HN := Lib.hid hn
  clear hs hd hoff
  simp only [pkC, cells, List.map_cons, List.map_nil, List.cons_append, List.nil_append]
  have HCL := fun w' (h : Below w.heap.size w w') => clone_any A l n c lo2 hi2 w' (hr.below h hhi) hn hA (by have := h.size; omega) hm
  clear hr hn hA
  go_enter Try.func46, Try.ntmps46
  go_wp2_with fail
  obtain ⟨C1, hC1⟩ : ∃ C1 : Array Value, C1 = #[.int .u16 (id : Int), .bool m, .int .i64 off, .int .u8 (ttl.toNat : Int), .int .u8 (proto.toNat : Int), .int .u8 (s0.toNat : Int), .int .u8 (s1.toNat : Int), .int .u8 (s2.toNat : Int), .int .u8 (s3.toNat : Int), .int .u8 (d0.toNat : Int), .int .u8 (d1.toNat : Int), .int .u8 (d2.toNat : Int), .int .u8 (d3.toNat : Int), .slice A0 data.length c0] := ⟨_, rfl⟩
  obtain ⟨C2, hC2⟩ : ∃ C2 : Array Value, C2 = #[.int .u16 0, .bool false, .int .i64 0, .int .u8 0, .int .u8 0, .int .u8 0, .int .u8 0, .int .u8 0, .int .u8 0, .int .u8 0, .int .u8 0, .int .u8 0, .int .u8 0, .slice none 0 0] := ⟨_, rfl⟩
  have HC1 := Lib.hid hC1
  have HC2 := Lib.hid hC2
  rw [← hC1, ← hC2]
  clear hC1 hC2
  have HB1 := Lib.hid (((Below.refl w.heap.size w).alloc (Nat.le_refl _) (.cells C1 60)).alloc (by simp) (.cells C2 60))
  have HG1 : Hid (((w.alloc (.cells C1 60)).alloc (.cells C2 60)).heap[w.heap.size]? = some (.cells C1 60 (0, 0))) := old_alloc (heap_alloc_new w _) _
  have HG2 : Hid (((w.alloc (.cells C1 60)).alloc (.cells C2 60)).heap[w.heap.size + 1]? = some (.cells C2 60 (0, 0))) := by
    have := heap_alloc_new (w.alloc (.cells C1 60)) (.cells C2 60)
    rwa [World.size_alloc] at this
  generalize (w.alloc (.cells C1 60)).alloc (.cells C2 60) = w1 at HB1 HG1 HG2 ⊢
  refine (HCL w1 HB1.out).mono ?_
  rintro e w2 ⟨v, rfl, hv, hb2⟩
  have HV := Lib.hid (hv.wide HB1.out.size)
  obtain ⟨A5, c5, rfl, _⟩ := hv
  obtain ⟨q, hq⟩ : ∃ q, l.length = q := ⟨_, rfl⟩
  rw [hq] at HV ⊢
  clear hq
  have HB2 := Lib.hid (HB1.out.trans (hb2.mono HB1.out.size))
  have hx1 := (hb2.block _ (row_lt HG1.out)).trans HG1.out
  have hx2 := (hb2.block _ (row_lt HG2.out)).trans HG2.out
  have HX1 := Lib.hid hx1
  have HX2 := Lib.hid hx2
  have hc13 : w2.cell? ⟨w.heap.size, 13, none⟩ = some (.slice A0 data.length c0) := by rw [cell_of_row _ _ _ _ _ _ hx1, HC1.out]; rfl
  have hf13 := frozen_of_row _ _ 13 _ _ hx1
  have HY1 := Lib.hid (heap_setCell_same w2 w.heap.size 13 C1 60 (.slice A5 q c5) hx1)
  have HY2 := Lib.hid ((heap_setCell_other w2 ⟨w.heap.size, 13, none⟩ (w.heap.size + 1) (.slice A5 q c5) (by simp)).trans hx2)
  obtain ⟨C3, hC3⟩ : ∃ C3, C1.setIfInBounds 13 (.slice A5 q c5) = C3 := ⟨_, rfl⟩
  rw [hC3] at HY1
  have HC3 : Hid (C3 = (pkC ⟨id, m, off, ttl, proto, [s0, s1, s2, s3], [d0, d1, d2, d3], l⟩ (.slice A5 q c5)).toArray) := by
    show _ = _
    rw [← hC3, HC1.out]
    rfl
  have HS3 : Hid (C3.size = 14 ∧ C2.size = 14 ∧ C3.all (·.oneCell') = true) := by
    refine ⟨by rw [HC3.out]; rfl, by rw [HC2.out]; rfl, ?_⟩
    rw [HC3.out]
    exact all_one (pkC_one _ _ rfl)
  clear hb2 hx1 hx2 hC3 HG1 HG2
  go_wp2_with (first | refine wpList_load_row rfl 60 _ rfl w.heap.size rfl 60 C3 (0, 0) _ HY1.out Try.underlying60 rfl (size_pk HS3.out.1) ?_ | refine wpList_store_row rfl 60 _ _ rfl (w.heap.size + 1) C3 rfl rfl 60 C2 HY2.out (size_pk HS3.out.1) (by rw [HS3.out.1, HS3.out.2.1]) HS3.out.2.2 ?_)
  refine ret_one (g := w.heap.size + 1) rfl rfl (setRow_heap _ _ _ _ _ _ HY2.out) Try.underlying60 rfl (size_pk HS3.out.1) rfl ?_
  refine ⟨C3, rfl, ?_, ?_⟩
  · refine ⟨_, by rw [HC3.out], HOK.out, HOF.out, ?_⟩
    refine HV.out.keep fun A h => ?_
    refine Tr.setRow (h.keep fun g C _ hg => heap_setCell_other _ _ _ _ fun e => ?_) HY2.out (by decide) _
    subst e
    have := HX1.out
    simp only at this hg
    rw [this] at hg
    injection hg with hg
    injection hg with _ h2
    exact absurd h2 (by decide)
  · exact below_setRow (HB2.out.setCell (Nat.le_refl _) _) (by simp) _


/-- where a piece ends -/
def endP (p : Pk) : Int := p.off + (p.data.length : Int)
def formedB (p : Pk) : Bool := decide (p.off % 8 = 0) && !decide (p.data.length = 0) && (!p.more || decide (p.data.length % 8 = 0))

set_option maxRecDepth 100000 in
set_option maxHeartbeats 400000 in
theorem end_any (cs : Array Value) (p : Pk) (lo hi : Nat) (w : World) (h : PkV w lo hi cs p) (h0 : 0 ≤ p.off) (h1 : p.off ≤ 1000) (hm : p.data.length ≤ 1000000000) :
    Calls Try.prog 54 #[.agg cs] w fun e w' => e = .returned (.int .i64 (endP p)) ∧ Below w.heap.size w w' := by
  have HB := Lib.hid ((Below.refl w.heap.size w).alloc (Nat.le_refl _) (.cells cs 60))
  have h2 := h.off_cell
  obtain ⟨A, c, _, _, h13, _⟩ := h.parts
  have HE : Hid (endP p = p.off + (p.data.length : Int)) := rfl
  generalize p.data.length = n at *
  generalize p.off = off at *
  generalize endP p = r at *
  clear h
  go_enter Try.func54, Try.ntmps54
  go_wp2
  go_ret
  exact ⟨by rw [HE.out]; rfl, HB.out⟩

set_option maxRecDepth 100000 in
set_option maxHeartbeats 1000000 in
theorem formed_any (cs : Array Value) (p : Pk) (lo hi : Nat) (w : World) (h : PkV w lo hi cs p) (h0 : 0 ≤ p.off) (h1 : p.off ≤ 1000) (hm : p.data.length ≤ 1000000000) :
    Calls Try.prog 55 #[.agg cs] w fun e w' => e = .returned (.bool (formedB p)) ∧ Below w.heap.size w w' := by
  have HB := Lib.hid ((Below.refl w.heap.size w).alloc (Nat.le_refl _) (.cells cs 60))
  have h2 := h.off_cell
  obtain ⟨A, c, hm1, _, h13, _⟩ := h.parts
  have HE : Hid (formedB p = (decide (p.off % 8 = 0) && !decide (p.data.length = 0) && (!p.more || decide (p.data.length % 8 = 0)))) := rfl
  generalize p.data.length = n at *
  generalize p.off = off at *
  generalize p.more = mr at *
  generalize formedB p = r at *
  clear h
  by_cases c1 : off % 8 = 0
  · have c1' : (off % 8 != 0) = false := bneF c1
    by_cases c2 : n = 0
    · have HV : Hid (r = false) := by show _ = _; rw [HE.out]; simp [c2]
      subst c2
      clear c1
      go_enter Try.func55, Try.ntmps55
      go_wp2
      go_ret
      exact ⟨by rw [HV.out]; rfl, HB.out⟩
    · have c2' : ((n : Int) == 0) = false := beqF (by omega)
      cases mr
      · have HV : Hid (r = true) := by show _ = _; rw [HE.out]; simp [c1, c2]
        clear c1 c2
        go_enter Try.func55, Try.ntmps55
        go_wp2
        go_ret
        exact ⟨by rw [HV.out]; rfl, HB.out⟩
      · by_cases c3 : n % 8 = 0
        · have HV : Hid (r = true) := by show _ = _; rw [HE.out]; simp [c1, c2, c3]
          have c3' : ((n : Int) % 8 == 0) = true := beqT (by omega)
          clear c1 c2 c3
          go_enter Try.func55, Try.ntmps55
          go_wp2
          go_ret
          exact ⟨by rw [HV.out]; rfl, HB.out⟩
        · have HV : Hid (r = false) := by show _ = _; rw [HE.out]; simp [c3]
          have c3' : ((n : Int) % 8 == 0) = false := beqF (by omega)
          clear c1 c2 c3
          go_enter Try.func55, Try.ntmps55
          go_wp2
          go_ret
          exact ⟨by rw [HV.out]; rfl, HB.out⟩
  · have c1' : (off % 8 != 0) = true := bneT c1
    have HV : Hid (r = false) := by show _ = _; rw [HE.out]; simp [c1]
    clear c1
    go_enter Try.func55, Try.ntmps55
    go_wp2
    go_ret
    exact ⟨by rw [HV.out]; rfl, HB.out⟩


/-- a packet's piece -/
def pieceP (p : Pk) (i : Nat) : Pk := { p with off := ((176 * i : Nat) : Int), more := decide (176 * (i + 1) < p.data.length), data := (p.data.drop (176 * i)).take 176 }
/-- how many pieces -/
def piecesN (n : Nat) : Nat := if n ≤ 176 then 1 else (n + 175) / 176
def splitL (p : Pk) (k : Nat) : List Pk := (List.range k).map (pieceP p)
/-- what Split answers -/
def splitP (p : Pk) : List Pk × Int := if p.off ≠ 0 ∨ p.more = true then ([], 1) else if 1000 < p.data.length then ([], 4) else (splitL p (piecesN p.data.length), 0)
theorem splitL_succ (p : Pk) (k : Nat) : splitL p (k + 1) = splitL p k ++ [pieceP p k] := by simp [splitL, List.range_succ]
theorem splitL_length (p : Pk) (k : Nat) : (splitL p k).length = k := by simp [splitL]

theorem info_pk : (Try.prog.info? 60).map (fun i => (i.zero, i.size, i.bytes)) = some (some (.agg #[.int .u16 0, .bool false, .int .i64 0, .int .u8 0, .int .u8 0, .int .u8 0, .int .u8 0, .int .u8 0, .int .u8 0, .int .u8 0, .int .u8 0, .int .u8 0, .int .u8 0, .slice none 0 0]), 14, 56) := by kernel_rfl

/-- packets that the call owns, from block lo on -/
def OwnPks (w : World) (lo : Nat) (v : Value) (ps : List Pk) : Prop := ∃ xs, w.ownsRow lo 60 14 v ps.length xs ∧ RowOf 14 (PkT w lo) xs ps
section
variable {w w' : World} {lo : Nat} {cs : List Value} {p : Pk}
theorem TB.alloc {l : List UInt8} {v : Value} (h : TB w lo l v) (o : Obj) : TB (w.alloc o) lo l v := h.keep fun _ h => h.alloc o
theorem TB.grown {l : List UInt8} {v : Value} {row : Option Nat} (h : TB w lo l v) (hg : w.grownBy w' row) (hr : ∀ g C t fr, row = some g → w.heap[g]? = some (.cells C t fr) → t ≠ 5) : TB w' lo l v := h.keep fun _ h => h.grown hg hr
theorem PkT.alloc (h : PkT w lo cs p) (o : Obj) : PkT (w.alloc o) lo cs p := by
  obtain ⟨v, e, h1, h2, h3⟩ := h
  exact ⟨v, e, h1, h2, h3.alloc o⟩
theorem PkT.grown {row : Option Nat} (h : PkT w lo cs p) (hg : w.grownBy w' row) (hr : ∀ g C t fr, row = some g → w.heap[g]? = some (.cells C t fr) → t ≠ 5) : PkT w' lo cs p := by
  obtain ⟨v, e, h1, h2, h3⟩ := h
  exact ⟨v, e, h1, h2, h3.grown hg hr⟩
theorem PkT.wide {lo' : Nat} (h : PkT w lo cs p) (hl : lo' ≤ lo) : PkT w lo' cs p := by
  obtain ⟨v, e, h1, h2, h3⟩ := h
  exact ⟨v, e, h1, h2, h3.wide hl⟩
end

def CutP (q : Pk) (lo : Nat) : Pred := fun v w => ∃ ds, v = .agg ds ∧ PkT w lo ds.toList q
def NewP (q : Pk) (lo B : Nat) : Pred := fun v w => ∃ g ds, v = .slice (some ⟨g, 0, none⟩) 1 1 ∧ B ≤ g ∧ w.heap[g]? = some (.cells ds 60 (0, 0)) ∧ PkT w lo ds.toList q
def AppP (q : Pk) (lo n : Nat) (xs : List Value) : Pred := fun v w => ∃ ds, w.ownsRow lo 60 14 v (n + 1) (xs ++ ds) ∧ PkT w lo ds q
/-- a row of elements of type t, of a block below B, grows -/
def RowS (t : TypeId) (B : Nat) (w w' : World) : Prop := ∃ row, w.grownBy w' row ∧ ∀ g, row = some g → g < B ∧ ∃ C, w.heap[g]? = some (.cells C t (0, 0))
theorem cutp_mono (q : Pk) (lo : Nat) : Mono (CutP q lo) := fun _ _ _ hb ⟨ds, e, h⟩ => ⟨ds, e, h.below hb (Nat.le_refl _)⟩
theorem newp_mono (q : Pk) (lo B : Nat) : Mono (NewP q lo B) := fun _ _ _ hb ⟨g, ds, e, h1, h2, h3⟩ => ⟨g, ds, e, h1, (hb.block _ (row_lt h2)).trans h2, h3.below hb (Nat.le_refl _)⟩
theorem appp_mono (q : Pk) (lo n : Nat) (xs : List Value) : Mono (AppP q lo n xs) := fun _ _ _ hb ⟨ds, h1, h2⟩ => ⟨ds, ownk_below h1 hb (Nat.le_refl _), h2.below hb (Nat.le_refl _)⟩
theorem PkT.rowS {w w' : World} {B lo : Nat} {cs : List Value} {q : Pk} (h : PkT w lo cs q) (hs : RowS 60 B w w') : PkT w' lo cs q := by
  obtain ⟨row, hg, hr⟩ := hs
  refine h.grown hg fun g C t fr he hh => ?_
  obtain ⟨_, C', hC⟩ := hr g he
  rw [hC] at hh
  injection hh with hh
  injection hh with _ h2
  subst h2
  decide
theorem cutp_sg (q : Pk) (lo B : Nat) : StableG (RowS 60 B) (CutP q lo) := fun _ _ _ hs ⟨ds, e, h⟩ => ⟨ds, e, h.rowS hs⟩
theorem newp_sg (q : Pk) (lo B : Nat) : StableG (RowS 60 B) (NewP q lo B) := fun _ _ _ hs ⟨g, ds, e, h1, h2, h3⟩ => by
  refine ⟨g, ds, e, h1, ?_, h3.rowS hs⟩
  obtain ⟨row, hg, hr⟩ := hs
  exact (hg.block g (row_lt h2) fun he => by have := (hr g he.symm).1; omega).trans h2
set_option maxRecDepth 100000 in
set_option maxHeartbeats 4000000 in
theorem split_ok (id : Nat) (ttl proto s0 s1 s2 s3 d0 d1 d2 d3 : UInt8) (data : List UInt8) (A : Option Addr) (n c lo hi : Nat) (w : World) (hid : id < 65536) (hr : Rd w lo hi A (cells data)) (hn : data.length = n) (hc : n ≤ c) (hcm : c ≤ maxLen) (hA : A = none → c = 0) (hhi : hi ≤ w.heap.size) (hl : n ≤ 1000) :
    Calls Try.prog 21 #[.agg #[.int .u16 (id : Int), .bool false, .int .i64 0, .int .u8 (ttl.toNat : Int), .int .u8 (proto.toNat : Int), .int .u8 (s0.toNat : Int), .int .u8 (s1.toNat : Int), .int .u8 (s2.toNat : Int), .int .u8 (s3.toNat : Int), .int .u8 (d0.toNat : Int), .int .u8 (d1.toNat : Int), .int .u8 (d2.toNat : Int), .int .u8 (d3.toNat : Int), .slice A n c]] w
      fun e w' => ∃ v, e = .returned (.tuple #[v, .int .i64 0]) ∧ OwnPks w' w.heap.size v (splitL ⟨id, false, 0, ttl, proto, [s0, s1, s2, s3], [d0, d1, d2, d3], data⟩ (piecesN n)) ∧ Below w.heap.size w w' := by
  obtain ⟨p, hp⟩ : ∃ p : Pk, p = ⟨id, false, 0, ttl, proto, [s0, s1, s2, s3], [d0, d1, d2, d3], data⟩ := ⟨_, rfl⟩
  rw [← hp]
  have HP := Lib.hid hp
  have HR := Lib.hid hr
  have HN := Lib.hid hn
  have HHI := Lib.hid hhi
  have HA := Lib.hid hA
  have HID := Lib.hid hid
  have HC0 := Lib.hid hc
  clear hp hr hn hhi hA hid
  unfold maxLen at hcm
  go_enter Try.func21, Try.ntmps21
  go_wp2
  go_loopw [4, 5] (fun t4 t5 wr => ∃ (k m d o : Nat) (A' : Option Addr) (xs : List Value), t5 = .slice A' m d ∧ m ≤ 1000 ∧ m ≤ d ∧ d ≤ 9223372036854775807 ∧ o ≤ 1000 ∧ Hid (o = 176 * k) ∧ Hid (o + m = n) ∧ Hid (0 < k → 0 < m) ∧ Hid (A' = none → m = 0) ∧ Hid (Rd w lo hi A' (cells (data.drop o))) ∧
      Hid (wr.ownsRow (w.heap.size + 1) 60 14 t4 k xs) ∧ Hid (RowOf 14 (PkT wr (w.heap.size + 1)) xs (splitL p k)) ∧ Hid (Below w.heap.size w wr) ∧
      Hid (wr.heap[w.heap.size]? = some (.cells #[.int .u16 (id : Int), .bool false, .int .i64 (o : Int), .int .u8 (ttl.toNat : Int), .int .u8 (proto.toNat : Int), .int .u8 (s0.toNat : Int), .int .u8 (s1.toNat : Int), .int .u8 (s2.toNat : Int), .int .u8 (s3.toNat : Int), .int .u8 (d0.toNat : Int), .int .u8 (d1.toNat : Int), .int .u8 (d2.toNat : Int), .int .u8 (d3.toNat : Int), .slice A n c] 60 (0, 0)))) (fun _ t5 _ => match t5 with | .slice _ m _ => m | _ => 0)
  case atStart => exact ⟨0, n, c, 0, A, [], rfl, hl, HC0.out, hcm, by omega, Lib.hid rfl, Lib.hid (Nat.zero_add n), Lib.hid (fun h => absurd h (by omega)), Lib.hid (fun h => by have := HA.out h; have := HC0.out; omega), HR, Lib.hid (World.ownsRow_nil _ _ _ _), Lib.hid RowOf.nil, Lib.hid ((Below.refl _ _).alloc (Nat.le_refl _) _), Lib.hid (heap_alloc_new w _)⟩
  case round =>
    obtain ⟨k, m, d, o, A', xs, rfl, hm, hmd, hd, ho, HO, HOM, HPOS, HAN, HRD, HOWN, HROW, HBEL, HBX⟩ := hrel
    obtain ⟨C1, hC1⟩ : ∃ C1 : Array Value, #[.int .u16 (id : Int), .bool false, .int .i64 (o : Int), .int .u8 (ttl.toNat : Int), .int .u8 (proto.toNat : Int), .int .u8 (s0.toNat : Int), .int .u8 (s1.toNat : Int), .int .u8 (s2.toNat : Int), .int .u8 (s3.toNat : Int), .int .u8 (d0.toNat : Int), .int .u8 (d1.toNat : Int), .int .u8 (d2.toNat : Int), .int .u8 (d3.toNat : Int), .slice A n c] = C1 := ⟨_, rfl⟩
    rw [hC1] at HBX
    obtain ⟨pk, hpk⟩ : ∃ pk : Pk, pk = { p with off := (o : Int) } := ⟨_, rfl⟩
    have HPV : Hid (PkV w lo hi C1 pk) := by
      show PkV _ _ _ _ _
      rw [hpk, HP.out, ← hC1]
      exact ⟨A, c, by simp only [HN.out]; rfl, ⟨HID.out, rfl, rfl⟩, ⟨by simp only; omega, by simp only; omega⟩, HR.out, by simp only [HN.out]; exact HC0.out, by unfold maxLen; omega, HA.out⟩
    have HC1 := Lib.hid hC1
    have HS1 : Hid (C1.size = 14) := HPV.out.size
    have HPK := Lib.hid hpk
    clear hC1 hpk
    have HPD : Hid (p.data = data) := by show _ = _; rw [HP.out]
    by_cases hlt : 176 < m
    · obtain ⟨ad, rfl⟩ : ∃ ad, A' = some ad := by
        rcases A' with _ | ad
        · have := HAN.out rfl; omega
        · exact ⟨ad, rfl⟩
      obtain ⟨q, hq⟩ : ∃ q, pieceP p k = q := ⟨_, rfl⟩
      obtain ⟨l, hl2⟩ : ∃ l, (data.drop o).take 176 = l := ⟨_, rfl⟩
      have HQ : Hid (({ pk with more := true, data := l } : Pk) = q) := by
        show _ = _
        rw [← hq, HPK.out, ← hl2]
        unfold pieceP
        rw [HPD.out, ← HO.out, HN.out]
        have := HO.out
        have := HOM.out
        rw [decide_eq_true (by omega)]
      have HQ1 := Lib.hid hq
      have HDL : Hid (l.length = 176) := by show _ = _; rw [← hl2, List.length_take, List.length_drop, HN.out]; have := HOM.out; omega
      have HD : Hid (Rd w lo hi (some ad) (cells l)) := by
        show Rd _ _ _ _ _
        rw [← hl2, ← cells_take]
        exact HRD.out.take 176
      have HRD2 : Hid (Rd w lo hi (some (ad.add 176)) (cells (data.drop (o + 176)))) := by
        have := HRD.out.drop 176
        rwa [cells_drop, List.drop_drop] at this
      obtain ⟨B, hB⟩ : ∃ B, wr.heap.size = B := ⟨_, rfl⟩
      have HBS := Lib.hid hB
      have HBB : Hid (w.heap.size + 1 ≤ B) := by have := row_lt HBX.out; show _ ≤ _; omega
      obtain ⟨ps, hps⟩ : ∃ ps, splitL p k = ps := ⟨_, rfl⟩
      rw [hps] at HROW
      have HPS := Lib.hid hps
      have hk6 : k ≤ 5 := by have := HO.out; omega
      have hd176 : (176 : Int) ≤ (d : Int) := by omega
      clear hq hl2 hB hps
      generalize u4 = v4 at HOWN ⊢
      go_wp2_with fail
      apply wp_region_relyG [6] (fun L w' => Below w.heap.size w w' ∧ w'.heap[w.heap.size]? = some (.cells C1 60 (0, 0)) ∧ B ≤ w'.heap.size ∧ RowOf 14 (PkT w' (w.heap.size + 1)) xs ps ∧ (L 6 = false → w'.ownsRow (w.heap.size + 1) 60 14 v4 k xs)) (RL [Is _, Is (.agg C1), Is _, Is _, CutP q (w.heap.size + 1), NewP q (w.heap.size + 1) B, AppP q (w.heap.size + 1) k xs, AppP q (w.heap.size + 1) k xs]) [false, false, false, false, true, false, false, false, false, false, false, false, false, false, false, false, false, false, false, false, false, false, true, true, true, true, true, true, true, false, false, false, false, false, false, false, false, false, false, false, false]
      · kernel_rfl
      · kernel_rfl
      · kernel_rfl
      · refine ⟨?_, ?_, ?_, ?_, ?_, ?_, ?_, ?_, trivial⟩
        · intro L ev w' hC hL hx K hK
          have e4 : ev (.tmp 4) = _ := hx.old 7 _ 4 rfl rfl (Bool.eq_false_iff.2 fun h => by have h1 := hx.closed 7 _ 6 rfl h (by kernel_rfl); have h2 := hx.closed 6 _ 0 rfl h1 (by kernel_rfl); rw [hL] at h2; cases h2)
          have HK := Lib.hid hK
          have HC := Lib.hid hC
          have HL := Lib.hid hL
          have HX := Lib.hid hx
          have hc := hx.cst
          skip
          clear hx hK hC hL
          unfold Run
          simp [execOp, Upon, go_sem, *]
          exact HK.out _ _ (.inl ⟨Below.refl _ _, by decide⟩) rfl
        · intro L ev w' hC hL hx K hK
          have e1 : ev (.tmp 1) = _ := hx.base 1 (by kernel_rfl)
          have HK := Lib.hid hK
          have HC := Lib.hid hC
          have HL := Lib.hid hL
          have HX := Lib.hid hx
          have hc := hx.cst
          skip
          clear hx hK hC hL
          have q1 : ev (.tmp 1) = .pointer (some ⟨w.heap.size, 0, none⟩) := e1
          have hld := run_loadVar_row (P := Try.prog) w' w.heap.size 60 60 C1 (0, 0) _ HC.out.2.1 Try.underlying60 rfl (size_pk HS1.out)
          unfold Run
          rw [run_loadE 60 _ rfl q1 hld]
          exact HK.out _ _ (.inl ⟨Below.refl _ _, by decide⟩) rfl
        · intro L ev w' hC hL hx K hK
          have e5 : ev (.tmp 5) = _ := hx.base 5 (by kernel_rfl)
          have HK := Lib.hid hK
          have HC := Lib.hid hC
          have HL := Lib.hid hL
          have HX := Lib.hid hx
          have hc := hx.cst
          skip
          clear hx hK hC hL
          unfold Run
          simp [execOp, Upon, go_sem, *]
          exact HK.out _ _ (.inl ⟨Below.refl _ _, by decide⟩) rfl
        · intro L ev w' hC hL hx K hK
          have e24 := hx.held 2 _ rfl (by kernel_rfl)
          change ev (.tmp 24) = _ at e24
          have HK := Lib.hid hK
          have HC := Lib.hid hC
          have HL := Lib.hid hL
          have HX := Lib.hid hx
          have hc := hx.cst
          skip
          clear hx hK hC hL
          unfold Run
          simp [execOp, Upon, go_sem, *]
          exact HK.out _ _ (.inl ⟨Below.refl _ _, by decide⟩) rfl
        · intro L ev w' hC hL hx K hK
          have e23 := hx.held 1 _ rfl (by kernel_rfl)
          have e25 := hx.held 3 _ rfl (by kernel_rfl)
          change ev (.tmp 23) = _ at e23
          change ev (.tmp 25) = _ at e25
          have HK := Lib.hid hK
          have HC := Lib.hid hC
          have HL := Lib.hid hL
          have HX := Lib.hid hx
          have hc := hx.cst
          have hf := hx.fn
          clear hx hK hC hL
          obtain ⟨hC1, hC2, hC3, hC4, hC5⟩ := HC.out
          have HX := Lib.hid (cut_any C1 pk true (some ad) l 176 d lo hi lo hi w' (HPV.out.below hC1 HHI.out) (HD.out.below hC1 HHI.out) HDL.out (fun h => by cases h) (Nat.le_trans HHI.out hC1.size) (by omega))
          clear hC1 hC2 hC3 hC4 hC5
          unfold Run
          simp [execOp, Upon, go_sem, *]
          refine HX.out.mono ?_
          rintro e w2 ⟨ds, rfl, hd, hb⟩
          rw [HQ.out] at hd
          exact ⟨_, rfl, HK.out _ _ (.inl ⟨hb, by decide⟩) ⟨ds, rfl, hd.wide (Nat.le_trans HBB.out HC.out.2.2.1)⟩⟩
        · intro L ev w' hC hL hx K hK
          have e26 := hx.held 4 _ rfl (by kernel_rfl)
          change (CutP q (w.heap.size + 1) : Pred) (ev (.tmp 26)) _ at e26
          have HK := Lib.hid hK
          have HC := Lib.hid hC
          have HL := Lib.hid hL
          have HX := Lib.hid hx
          have hc := hx.cst
          skip
          clear hx hK hC hL
          obtain ⟨ds, q26, hd⟩ := e26
          have HD1 := Lib.hid hd
          have hrun := run_build_one (P := Try.prog) w' 56 60 ds Try.underlying56 14 (by decide) (by decide) (by kernel_rfl) (by simpa using hd.len)
          clear hd
          unfold Run
          rw [run_buildE 56 _ rfl q26 hrun]
          exact HK.out _ _ (.inl ⟨(Below.refl _ _).alloc (Nat.le_refl _) _, by decide⟩) ⟨_, ds, rfl, HC.out.2.2.1, heap_alloc_new _ _, HD1.out.alloc _⟩
        · intro L ev w' hC hL hx K hK
          have e22 := hx.held 0 _ rfl (by kernel_rfl)
          have e27 := hx.held 5 _ rfl (by kernel_rfl)
          change ev (.tmp 22) = _ at e22
          change (NewP q (w.heap.size + 1) B : Pred) (ev (.tmp 27)) _ at e27
          have HK := Lib.hid hK
          have HC := Lib.hid hC
          have HL := Lib.hid hL
          have HX := Lib.hid hx
          have hc := hx.cst
          skip
          clear hx hK hC hL
          obtain ⟨g, ds, q27, hgB, hgg, hd⟩ := e27
          obtain ⟨hC1, hC2, hC3, hC4, hC5⟩ := HC.out
          have HOW := Lib.hid (hC5 HL.out)
          have HD1 := Lib.hid hd
          have HC1 := Lib.hid hC1
          have HC2 := Lib.hid hC2
          have HC3 := Lib.hid hC3
          have HC4 := Lib.hid hC4
          have HG := Lib.hid hgg
          have HGB := Lib.hid hgB
          obtain ⟨i0, hi0, hz0, hz1, hz2⟩ := info_parts info_pk
          obtain ⟨v', w2, hrun, hown2, hgrow2, hat2⟩ := append_elem (P := Try.prog) (w := w') (w.heap.size + 1) 56 56 60 i0 _ 14 56 Try.underlying56 hi0 hz0 hz1 hz2 rfl (by decide) v4 k xs HOW.out g 1 ds _ _ HG.out (by simpa using HD1.out.len) HD1.out.one (by unfold maxLen; omega) (by omega) (by have := HC1.out.size; have := HBB.out; have := HC3.out; omega)
          have HO2 := Lib.hid hown2
          have HW2 := Lib.hid hgrow2
          have HSG : Hid (RowS 60 B w' w2) := ⟨v4.ownBlock, hgrow2, fun g' he => ⟨by have := HOWN.out.lt g' he; have := HBS.out; omega, ownk_cells_of HOW.out he⟩⟩
          have HAT := Lib.hid hat2
          clear hC1 hC2 hC3 hC4 hC5 hd hgg hgB hown2 hgrow2 hat2 hi0 hz0 hz1 hz2
          have q22 : ev (.tmp 22) = v4 := e22
          unfold Run
          rw [run_appendE _ _ 56 rfl q22 q27 hrun]
          refine HK.out _ _ (.inr ⟨⟨HC1.out.grown HW2.out HC1.out.size (fun g' he => by have := HOW.out.lt g' he; omega), ?_, Nat.le_trans HC3.out HW2.out.size, HC4.out.imp fun cs a _ h => h.grown HW2.out (fun g' C t fr he hh => ?_), fun h => by simp [upd] at h⟩, fun j hj hlj u hr => rl_sg (S := RowS 60 B) (ex := [6, 7]) 0 (by exact ⟨.inr (is_sg _ _), .inr (is_sg _ _), .inr (is_sg _ _), .inr (is_sg _ _), .inr (cutp_sg _ _ _), .inr (newp_sg _ _ _), .inl rfl, .inl rfl, trivial⟩) j u w' w2 (by rw [Nat.zero_add]; have h7 : j ≠ 7 := (fun h => by subst h; have h1 := HX.out.closed 7 _ 6 rfl hlj (by kernel_rfl); rw [HL.out] at h1; cases h1); simp [hj, h7]) HSG.out hr⟩) ⟨ds.toList, HO2.out, HD1.out.grown HW2.out (fun g' C t fr he hh => ?_)⟩
          · exact (HW2.out.block _ (row_lt HC2.out) (fun he => by have := HOW.out.lt _ he.symm; omega)).trans HC2.out
          · have := ownk_type HOW.out he hh
            subst this
            decide
          · have := ownk_type HOW.out he hh
            subst this
            decide
        · intro L ev w' hC hL hx K hK
          have e28 := hx.held 6 _ rfl (by kernel_rfl)
          change (AppP q (w.heap.size + 1) k xs : Pred) (ev (.tmp 28)) _ at e28
          have HK := Lib.hid hK
          have HC := Lib.hid hC
          have HL := Lib.hid hL
          have HX := Lib.hid hx
          have hc := hx.cst
          skip
          clear hx hK hC hL
          have E28 := Lib.hid e28
          clear e28
          unfold Run
          simp [execOp, Upon, go_sem, *]
          exact HK.out _ _ (.inl ⟨Below.refl _ _, by decide⟩) E28.out
      · exact rl_mono ⟨is_mono _, is_mono _, is_mono _, is_mono _, cutp_mono _ _, newp_mono _ _ _, appp_mono _ _ _ _, appp_mono _ _ _ _, trivial⟩
      · exact fun L L' w1 he h => ⟨h.1, h.2.1, h.2.2.1, h.2.2.2.1, fun hl => h.2.2.2.2 ((he 6 (by simp)).trans hl)⟩
      · exact fun L w1 w2 hb h => ⟨h.1.trans (hb.mono h.1.size), (hb.block _ (row_lt h.2.1)).trans h.2.1, Nat.le_trans h.2.2.1 hb.size, h.2.2.2.1.imp fun cs a _ hp => hp.below hb (Nat.le_refl _), fun hl => ownk_below (h.2.2.2.2 hl) hb (Nat.le_refl _)⟩
      · exact ⟨HBEL.out, HBX.out, Nat.le_of_eq HBS.out.symm, HROW.out, fun _ => HOWN.out⟩
      · simp
      intro us wr hG hH
      obtain ⟨-, -, -, -, -, -, -, h7, -⟩ := hH
      simp only [fillM]
      change (AppP q (w.heap.size + 1) k xs : Pred) (us 4) wr at h7
      generalize us 22 = v22
      generalize us 23 = v23
      generalize us 24 = v24
      generalize us 25 = v25
      generalize us 26 = v26
      generalize us 27 = v27
      generalize us 28 = v28
      generalize us 4 = v4 at h7 ⊢
      obtain ⟨g1, g2, g3, g4, -⟩ := hG
      obtain ⟨ds, ho7, hd7⟩ := h7
      have hc2 : wr.cell? ⟨w.heap.size, 2, none⟩ = some (.int .i64 (o : Int)) := by rw [cell_of_row _ _ _ _ _ _ g2, ← HC1.out]; rfl
      have hf2 := frozen_of_row _ _ 2 _ _ g2
      have HY := Lib.hid (heap_setCell_same wr w.heap.size 2 C1 60 (.int .i64 ((o : Int) + 176)) g2)
      have HB2 : Hid (Below w.heap.size w (wr.setCell ⟨w.heap.size, 2, none⟩ (.int .i64 ((o : Int) + 176)))) := g1.setCell (Nat.le_refl _) _
      have HO2 := Lib.hid (ownsRow_setCell_below ho7 (a := ⟨w.heap.size, 2, none⟩) (Nat.lt_succ_self _) (.int .i64 ((o : Int) + 176)))
      have hst : ∀ cs r, PkT wr (w.heap.size + 1) cs r → PkT (wr.setCell ⟨w.heap.size, 2, none⟩ (.int .i64 ((o : Int) + 176))) (w.heap.size + 1) cs r := fun cs r h => by
        obtain ⟨v, e, h1, h2, h3⟩ := h
        exact ⟨v, e, h1, h2, h3.keep fun A hA => hA.keep fun g C hg _ => heap_setCell_other _ _ _ _ (by simp only; omega)⟩
      have HRW : Hid (RowOf 14 (PkT (wr.setCell ⟨w.heap.size, 2, none⟩ (.int .i64 ((o : Int) + 176))) (w.heap.size + 1)) (xs ++ ds) (splitL p (k + 1))) := by
        show RowOf _ _ _ _
        rw [splitL_succ, HPS.out, HQ1.out]
        exact (g4.imp fun cs r _ h => hst cs r h).append (RowOf.one (hst _ _ hd7) hd7.len)
      clear g1 g2 g3 g4 ho7 hd7 hst
      go_wp2
      go_roundw
      case rel => exact ⟨k + 1, m - 176, d - 176, o + 176, some (ad.add 176), xs ++ ds, by go_num, by omega, by omega, by omega, by have := HOM.out; omega, (by have := HO.out; show _ = _; omega), (by have := HOM.out; show _ = _; omega), Lib.hid (fun _ => by omega), Lib.hid (fun h => by cases h), HRD2, HO2, HRW, HB2, (by have := HY.out; rw [← HC1.out] at this; exact this)⟩
      case measure => simp; omega
    · have hend : splitL p (piecesN n) = splitL p k ++ [pieceP p k] := by
        rw [← splitL_succ]
        congr 1
        unfold piecesN
        have := HO.out
        have := HOM.out
        have := HPOS.out
        split <;> omega
      obtain ⟨q, hq⟩ : ∃ q, pieceP p k = q := ⟨_, rfl⟩
      have HQ : Hid (({ pk with more := false, data := data.drop o } : Pk) = q) := by
        show _ = _
        rw [← hq, HPK.out]
        unfold pieceP
        rw [HPD.out, ← HO.out, HN.out]
        have := HO.out
        have := HOM.out
        rw [decide_eq_false (by omega), List.take_of_length_le (by rw [List.length_drop, HN.out]; omega)]
      rw [hq] at hend
      have HEND := Lib.hid hend
      have HDL : Hid ((data.drop o).length = m) := by show _ = _; rw [List.length_drop, HN.out]; have := HOM.out; omega
      have HWZ : Hid (w.heap.size + 1 ≤ wr.heap.size) := by have := row_lt HBX.out; show _ ≤ _; omega
      have hk6 : k ≤ 5 := by have := HO.out; omega
      obtain ⟨i0, hi0, hz0, hz1, hz2⟩ := info_parts info_pk
      clear hq hend
      generalize u4 = v4 at HOWN ⊢
      go_wp2_with (refine wpList_load_row rfl 60 _ rfl w.heap.size rfl 60 C1 (0, 0) _ HBX.out Try.underlying60 rfl (size_pk HS1.out) ?_)
      refine (cut_any C1 pk false A' (data.drop o) m d lo hi lo hi wr (HPV.out.below HBEL.out HHI.out) (HRD.out.below HBEL.out HHI.out) HDL.out HAN.out (Nat.le_trans HHI.out HBEL.out.size) (by omega)).mono ?_
      rintro e w2 ⟨ds, rfl, hd, hb2⟩
      rw [HQ.out] at hd
      have HD := Lib.hid (hd.wide HWZ.out)
      have HSZ : Hid (ds.size = 14) := by have := hd.len; show _ = _; simpa using this
      have HON := Lib.hid (ownk_below HOWN.out hb2 (Nat.le_refl _))
      have HRW := Lib.hid (HROW.out.imp fun cs r _ (h : PkT wr (w.heap.size + 1) cs r) => h.below hb2 (Nat.le_refl _))
      have HB2 := Lib.hid (HBEL.out.trans (hb2.mono HBEL.out.size))
      have HW2 : Hid (w.heap.size + 1 ≤ w2.heap.size) := Nat.le_trans HWZ.out hb2.size
      clear hd hb2 HOWN HROW HBEL
      go_wp2_with (first | refine wpList_build_one rfl 56 60 _ rfl ds rfl Try.underlying56 14 (by decide) (by decide) (by kernel_rfl) HSZ.out ?_ | (at_builtin; refine wpList_append_elem rfl _ _ 56 rfl (w.heap.size + 1) 60 i0 _ 14 56 Try.underlying56 hi0 hz0 hz1 hz2 rfl (by decide) v4 k xs rfl (HON.out.alloc _) w2.heap.size 1 ds 60 (0, 0) rfl (heap_alloc_new w2 _) HSZ.out HD.out.one (by unfold maxLen; omega) (by omega) (by have := HW2.out; simp; omega) ?_))
      intro v5 w5 hown5 hgrow5 _
      have HTY : Hid (∀ (g : Nat) (C : Array Value) (t : TypeId) (fr : Nat × Nat), v4.ownBlock = some g → (w2.alloc (.cells ds 60)).heap[g]? = some (.cells C t fr) → t ≠ 5) := fun g C t fr he hh => by
        have := ownk_type (HON.out.alloc (.cells ds 60)) he hh
        subst this
        decide
      have HB5 : Hid (Below w.heap.size w w5) := (HB2.out.alloc HB2.out.size _).grown hgrow5 (by have := HB2.out.size; simp; omega) fun g hg => by have := HON.out.lt g hg; omega
      have HR5 : Hid (RowOf 14 (PkT w5 (w.heap.size + 1)) (xs ++ ds.toList) (splitL p (piecesN n))) := by
        show RowOf _ _ _ _
        rw [HEND.out]
        exact (HRW.out.imp fun cs r _ (h : PkT w2 (w.heap.size + 1) cs r) => (h.alloc _).grown hgrow5 HTY.out).append (RowOf.one ((HD.out.alloc _).grown hgrow5 HTY.out) HD.out.len)
      have HO5 := Lib.hid hown5
      clear hown5 hgrow5
      go_wp2
      go_ret2
      refine ⟨v5, rfl, ⟨xs ++ ds.toList, ?_, HR5.out.imp fun cs r _ h => h.wide (Nat.le_succ _)⟩, HB5.out⟩
      rw [HEND.out, List.length_append, splitL_length]
      exact ownk_base HO5.out (Nat.le_succ _)


/-- what a function leaves that hands back packets of its own and an error -/
def PksPost (w : World) (r : List Pk × Int) (e : Ending) (w' : World) : Prop :=
  ∃ v, e = .returned (.tuple #[v, .int .i64 r.2]) ∧ OwnPks w' w.heap.size v r.1 ∧ Below w.heap.size w w'
theorem pks_none {w w' : World} {r : List Pk × Int} {z : Int} (h : r = ([], z)) (hb : Below w.heap.size w w') : PksPost w r (.returned (.tuple #[.slice none 0 0, .int .i64 z])) w' := by
  subst h
  exact ⟨_, rfl, ⟨[], World.ownsRow_nil _ _ _ _, RowOf.nil⟩, hb⟩

set_option maxRecDepth 100000 in
set_option maxHeartbeats 400000 in
theorem split_arg (cs : Array Value) (off : Int) (more : Bool) (w : World) (h1 : cs[1]? = some (.bool more)) (h2 : cs[2]? = some (.int .i64 off)) (h : off ≠ 0 ∨ more = true) :
    Calls Try.prog 21 #[.agg cs] w fun e w' => e = .returned (.tuple #[.slice none 0 0, .int .i64 1]) ∧ Below w.heap.size w w' := by
  have HB := Lib.hid ((Below.refl w.heap.size w).alloc (Nat.le_refl _) (.cells cs 60))
  by_cases h0 : off = 0
  · have hm : more = true := h.resolve_left (fun hh => hh h0)
    subst hm h0
    clear h
    go_enter Try.func21, Try.ntmps21
    go_wp2
    go_ret2
    exact ⟨rfl, HB.out⟩
  · have h0' : (off != 0) = true := bneT h0
    clear h h0
    go_enter Try.func21, Try.ntmps21
    go_wp2
    go_ret2
    exact ⟨rfl, HB.out⟩
set_option maxRecDepth 100000 in
set_option maxHeartbeats 400000 in
theorem split_long (cs : Array Value) (A : Option Addr) (n c : Nat) (w : World) (h1 : cs[1]? = some (.bool false)) (h2 : cs[2]? = some (.int .i64 0)) (h3 : cs[13]? = some (.slice A n c)) (hm : n ≤ 9223372036854775807) (h : 1000 < n) :
    Calls Try.prog 21 #[.agg cs] w fun e w' => e = .returned (.tuple #[.slice none 0 0, .int .i64 4]) ∧ Below w.heap.size w w' := by
  have HB := Lib.hid ((Below.refl w.heap.size w).alloc (Nat.le_refl _) (.cells cs 60))
  go_enter Try.func21, Try.ntmps21
  go_wp2
  go_ret2
  exact ⟨rfl, HB.out⟩

theorem split_any (cs : Array Value) (p : Pk) (lo hi : Nat) (w : World) (h : PkV w lo hi cs p) (hhi : hi ≤ w.heap.size) :
    Calls Try.prog 21 #[.agg cs] w (PksPost w (splitP p)) := by
  have h2 := h.off_cell
  obtain ⟨A0, c0, h1, _, h13, _, hlc0, hcm0, _⟩ := h.parts
  by_cases ha : p.off ≠ 0 ∨ p.more = true
  · have e1 : splitP p = ([], 1) := by unfold splitP; rw [if_pos ha]
    refine (split_arg cs p.off p.more w h1 h2 ha).mono ?_
    rintro e w' ⟨rfl, hb⟩
    exact pks_none e1 hb
  · have h0 : p.off = 0 := Classical.byContradiction fun hh => ha (.inl hh)
    have hm : p.more = false := by
      cases hmm : p.more
      · rfl
      · exact absurd (.inr hmm) ha
    by_cases hl : 1000 < p.data.length
    · have e1 : splitP p = ([], 4) := by unfold splitP; rw [if_neg ha, if_pos hl]
      rw [h0] at h2
      rw [hm] at h1
      refine (split_long cs A0 p.data.length c0 w h1 h2 h13 (by unfold maxLen at hcm0; omega) hl).mono ?_
      rintro e w' ⟨rfl, hb⟩
      exact pks_none e1 hb
    · have e1 : splitP p = (splitL p (piecesN p.data.length), 0) := by unfold splitP; rw [if_neg ha, if_neg hl]
      rw [e1]
      obtain ⟨A, c, he, hok, _, hrd, hlc, hcm, hA⟩ := h
      obtain ⟨id, mr, off, ttl, proto, src, dst, data⟩ := p
      simp only at h0 hm
      subst h0 hm
      obtain ⟨hid, hs, hd⟩ := hok
      simp only at hs hd he hid hrd hlc hl
      obtain ⟨s0, s1, s2, s3, rfl⟩ := four_of src hs
      obtain ⟨d0, d1, d2, d3, rfl⟩ := four_of dst hd
      subst he
      refine (split_ok id ttl proto s0 s1 s2 s3 d0 d1 d2 d3 data A data.length c lo hi w hid hrd rfl hlc hcm hA hhi (by omega)).mono ?_
      rintro e w' ⟨v, rfl, h1, h2⟩
      exact ⟨v, rfl, h1, h2⟩
end Go.Proofs.Ytjgdmkmfnkaoaaa.F
