/-
  Rows of structs, of no one layer: cells that read as a list of elements of k cells each; rows that lie in blocks of one element type; a struct read out of any place; append of a struct; a slice literal of one struct. No condition.
-/
import Derived.Test.YtebflcpoecolbaaMem
import Derived.Laws.Rows
import Derived.Laws.Tables
import Derived.Deep.MidRow
import Derived.Deep.WholeRow
import Derived.Great.BuildSlice
namespace Go.Proofs.Ytebflcpoecolbaa
open Go.RowKit

/-- cells that read as a list, k cells an element -/
def RowOf {α : Type} (k : Nat) (R : List Value → α → Prop) (xs : List Value) (el : List α) : Prop :=
  xs.length = el.length * k ∧ ∀ (i : Nat) (a : α), el[i]? = some a → R ((xs.drop (i * k)).take k) a
section
variable {α : Type} {k : Nat} {R : List Value → α → Prop} {xs ys : List Value} {el bs : List α}
theorem RowOf.nil : RowOf k R [] ([] : List α) := ⟨by simp, by simp⟩
theorem RowOf.one {cs : List Value} {a : α} (h : R cs a) (hl : cs.length = k) : RowOf k R cs [a] :=
  ⟨by simpa using hl, fun i b hb => by
    cases i with
    | zero => simp at hb; subst hb; simpa [List.take_of_length_le (Nat.le_of_eq hl)] using h
    | succ i => simp at hb⟩
theorem RowOf.append (h : RowOf k R xs el) (h2 : RowOf k R ys bs) : RowOf k R (xs ++ ys) (el ++ bs) := by
  refine ⟨by rw [List.length_append, h.1, h2.1, List.length_append, Nat.add_mul], fun i a hi => ?_⟩
  rcases Nat.lt_or_ge i el.length with hlt | hge
  · have hk : i * k + k ≤ xs.length := by rw [h.1, ← Nat.succ_mul]; exact Nat.mul_le_mul_right k hlt
    rw [List.drop_append_of_le_length (by omega), List.take_append_of_le_length (by rw [List.length_drop]; omega)]
    exact h.2 i a (by rwa [List.getElem?_append_left hlt] at hi)
  · rw [List.getElem?_append_right hge] at hi
    have := h2.2 _ a hi
    rwa [show (xs ++ ys).drop (i * k) = ys.drop ((i - el.length) * k) from by
      rw [List.drop_append, List.drop_eq_nil_of_le (by rw [h.1]; exact Nat.mul_le_mul_right k hge), List.nil_append, h.1, Nat.sub_mul]]
theorem RowOf.imp {R' : List Value → α → Prop} (h : RowOf k R xs el) (hi : ∀ cs a, a ∈ el → R cs a → R' cs a) : RowOf k R' xs el :=
  ⟨h.1, fun i a ha => hi _ a (List.mem_of_getElem? ha) (h.2 i a ha)⟩
theorem RowOf.take (h : RowOf k R xs el) (n : Nat) : RowOf k R (xs.take (n * k)) (el.take n) := by
  refine ⟨by rw [List.length_take, List.length_take, h.1, Nat.mul_min_mul_right], fun i a hi => ?_⟩
  rw [List.getElem?_take] at hi
  split at hi
  · rename_i hlt
    rw [List.drop_take, List.take_take, Nat.min_eq_left (by rw [← Nat.sub_mul]; exact Nat.le_mul_of_pos_left k (by omega))]
    exact h.2 i a hi
  · cases hi
theorem RowOf.drop (h : RowOf k R xs el) (n : Nat) : RowOf k R (xs.drop (n * k)) (el.drop n) := by
  refine ⟨by rw [List.length_drop, List.length_drop, h.1, Nat.sub_mul], fun i a hi => ?_⟩
  rw [List.getElem?_drop] at hi
  rw [List.drop_drop, ← Nat.add_mul]
  exact h.2 _ a hi
theorem RowOf.at_ (h : RowOf k R xs el) {i : Nat} (hi : i < el.length) : R ((xs.drop (i * k)).take k) el[i] ∧ ((xs.drop (i * k)).take k).length = k := by
  refine ⟨h.2 i _ (List.getElem?_eq_getElem hi), ?_⟩
  rw [List.length_take, List.length_drop, h.1, ← Nat.sub_mul]
  exact Nat.min_eq_left (Nat.le_mul_of_pos_left k (by omega))
theorem RowOf.set (h : RowOf k R xs el) {i : Nat} (hi : i < el.length) {cs : List Value} {a : α} (ha : R cs a) (hl : cs.length = k) : RowOf k R (xs.take (i * k) ++ cs ++ xs.drop (i * k + k)) (el.set i a) := by
  rw [List.set_eq_take_append_cons_drop, if_pos hi, show el.take i ++ a :: el.drop (i + 1) = el.take i ++ [a] ++ el.drop (i + 1) from by simp, ← Nat.succ_mul]
  exact ((h.take i).append (RowOf.one ha hl)).append (h.drop (i + 1))
theorem RowOf.erase (h : RowOf k R xs el) (i : Nat) : RowOf k R (xs.take (i * k) ++ xs.drop (i * k + k)) (el.eraseIdx i) := by
  rw [List.eraseIdx_eq_take_drop_succ, ← Nat.succ_mul]
  exact (h.take i).append (h.drop (i + 1))
theorem RowOf.one_cell (h : RowOf k R xs el) (h1 : ∀ cs a, R cs a → ∀ u ∈ cs, u.oneCell' = true) (hk : 0 < k) : ∀ u ∈ xs, u.oneCell' = true := by
  intro u hu
  obtain ⟨j, hj, rfl⟩ := List.mem_iff_getElem.1 hu
  have hi : j / k < el.length := by rw [Nat.div_lt_iff_lt_mul hk, ← h.1]; exact hj
  refine h1 _ _ (h.at_ hi).1 _ ?_
  have hm := Nat.div_add_mod' j k
  have hlt := Nat.mod_lt j hk
  refine List.mem_iff_getElem?.2 ⟨j % k, ?_⟩
  rw [List.getElem?_take, if_pos hlt, List.getElem?_drop, hm]
  exact List.getElem?_eq_getElem hj
end

/-- every cell of xs is read behind head A, in blocks of element type e, from lo on -/
def Tr (w : World) (lo : Nat) (e : TypeId) (A : Option Addr) (xs : List Value) : Prop :=
  ∀ k u, xs[k]? = some u → ∃ (g o : Nat) (C : Array Value), A = some ⟨g, o, none⟩ ∧ lo ≤ g ∧ w.heap[g]? = some (.cells C e (0, 0)) ∧ C[o + k]? = some u
section
variable {w w' : World} {lo : Nat} {e : TypeId} {A : Option Addr} {xs : List Value}
theorem Tr.nil : Tr w lo e A [] := by intro k u h; simp at h
theorem Tr.rd (h : Tr w lo e A xs) : Rd w lo w.heap.size A xs := by
  intro k u hu
  obtain ⟨g, o, C, rfl, h1, h2, h3⟩ := h k u hu
  refine ⟨_, rfl, h1, (Array.getElem?_eq_some_iff.1 h2).1, ?_⟩
  rw [Addr.add_mid, cell_of_row _ _ _ _ _ _ h2]
  exact h3
theorem Tr.keep (h : Tr w lo e A xs) (hk : ∀ g C, lo ≤ g → w.heap[g]? = some (.cells C e (0, 0)) → w'.heap[g]? = w.heap[g]?) : Tr w' lo e A xs := by
  intro k u hu
  obtain ⟨g, o, C, rfl, h1, h2, h3⟩ := h k u hu
  exact ⟨g, o, C, rfl, h1, (hk g C h1 h2).trans h2, h3⟩
theorem Tr.below {B : Nat} (h : Tr w lo e A xs) (hb : Below B w w') (hB : w.heap.size ≤ B) : Tr w' lo e A xs :=
  h.keep fun g C _ hg => hb.block g (by have := (Array.getElem?_eq_some_iff.1 hg).1; omega)
theorem Tr.wide {lo' : Nat} (h : Tr w lo e A xs) (hl : lo' ≤ lo) : Tr w lo' e A xs := by
  intro k u hu
  obtain ⟨g, o, C, h0, h1, h2⟩ := h k u hu
  exact ⟨g, o, C, h0, by omega, h2⟩
theorem Tr.alloc (h : Tr w lo e A xs) (o : Obj) : Tr (w.alloc o) lo e A xs := h.keep fun _ _ _ hg => Below.heap_alloc _ _ _ (Array.getElem?_eq_some_iff.1 hg).1
theorem Tr.grown {row : Option Nat} (h : Tr w lo e A xs) (hg : w.grownBy w' row) (hr : ∀ g C t fr, row = some g → w.heap[g]? = some (.cells C t fr) → t ≠ e) : Tr w' lo e A xs :=
  h.keep fun g C _ hC => hg.block g (Array.getElem?_eq_some_iff.1 hC).1 fun he => hr g C e (0, 0) he.symm hC rfl
theorem Tr.setRow (h : Tr w lo e A xs) {g : Nat} {C : Array Value} {t : TypeId} {fr : Nat × Nat} (hg : w.heap[g]? = some (.cells C t fr)) (ht : t ≠ e) (cs : Array Value) : Tr (w.setRow g cs) lo e A xs :=
  h.keep fun k D _ hD => setRow_other w g k cs fun hk => by
    subst hk
    rw [hg] at hD
    injection hD with hD
    injection hD with _ h2
    exact ht h2
theorem Tr.own {base n c k : Nat} (h : w.ownsRow base e k (.slice A n c) n xs) : Tr w base e A xs := by
  intro j u hu
  rcases h.2 with ⟨he, hn⟩ | ⟨g, cap, cur, he, h1, h2, _, _, _, h3⟩
  · have := h.1
    have hk := (List.getElem?_eq_some_iff.1 hu).1
    rw [hn, Nat.zero_mul] at this
    omega
  · injection he with e1 e2 e3
    subst e1
    refine ⟨g, 0, cur, rfl, h1, h2, ?_⟩
    rw [← h3, List.getElem?_take] at hu
    split at hu
    · simpa using hu
    · cases hu
theorem Tr.sub (h : Tr w lo e A xs) (d n : Nat) : Tr w lo e (A.map (·.add d)) ((xs.drop d).take n) := by
  intro k u hu
  rw [List.getElem?_take] at hu
  split at hu
  · rw [List.getElem?_drop] at hu
    obtain ⟨g, o, C, rfl, h1, h2, h3⟩ := h _ u hu
    refine ⟨g, o + d, C, ?_, h1, h2, by rw [Nat.add_assoc]; exact h3⟩
    rw [Option.map_some, Addr.add_mid]
  · cases hu
end

/-- a new block of cells -/
theorem tr_new (w : World) (cs : List Value) (e : TypeId) (lo : Nat) (h : lo ≤ w.heap.size) : Tr (w.alloc (.cells cs.toArray e)) lo e (some ⟨w.heap.size, 0, none⟩) cs := by
  intro k u hu
  exact ⟨w.heap.size, 0, cs.toArray, rfl, h, heap_alloc_new w _, by simpa using hu⟩

section
variable {P : Program}
/-- a struct, or an array, read out of whatever place -/
theorem run_loadVar_any (w : World) (ad : Addr) (ty : TypeId) (cs : List Value) (d : TypeDesc) (hc : ∀ j v, cs[j]? = some v → w.cell? (ad.add j) = some v)
    (hu : P.underlying ty = some d) (hd : d.isRow = true) (hi : (P.info? ty).map (·.size) = some cs.length) :
    (loadVar ty ad).run P w = .ok (.agg cs.toArray) w := by
  have hl : (loadCells ad cs.length).run P w = .ok cs.toArray w := run_loadCells_list (P := P) w ad cs hc
  cases hq : P.info? ty with
  | none => simp [hq] at hi
  | some i =>
    have hs : i.size = cs.length := by simpa [hq] using hi
    have hagg : (isAgg ty).run P w = .ok true w := by
      unfold isAgg
      rw [Sem.run_bind, run_underlying hu w]
      cases d <;> simp_all
    simp [loadVar, Sem.run_bind, hagg, sizeOf, typeInfo, hq, hs, hl]
theorem wp_load_at {op : Oper} {a : Act} {w : World} {K : Act → World → Prop} {Q : Exit → Act → World → Prop} (ty : TypeId) (x : Operand) (ho : op.op = .load ty x)
    (ad : Addr) (hx : a.eval x = .pointer (some ad)) (cs : List Value) (d : TypeDesc) (hc : ∀ j v, cs[j]? = some v → w.cell? (ad.add j) = some v)
    (hu : P.underlying ty = some d) (hd : d.isRow = true) (hi : (P.info? ty).map (·.size) = some cs.length)
    (h : K (a.put op.dst (.agg cs.toArray)) w) : op.wp P a w K Q := by
  unfold Oper.wp execOp
  simp only [ho, hx, Instr.loadAt, Instr.sureAddr, Sem.run_bind, Sem.run_pure, Result.andThen_ok, run_loadVar_any w ad ty cs d hc hu hd hi]
  exact h
theorem wpList_load_at {ops : Array Oper} {rest : List Oper} {op : Oper} {a : Act} {w : World} {Q : Exit → Act → World → Prop} (hgd : op.guard = none) (ty : TypeId) (x : Operand) (ho : op.op = .load ty x)
    (ad : Addr) (hx : a.eval x = .pointer (some ad)) (cs : List Value) (d : TypeDesc) (hc : ∀ j v, cs[j]? = some v → w.cell? (ad.add j) = some v)
    (hu : P.underlying ty = some d) (hd : d.isRow = true) (hi : (P.info? ty).map (·.size) = some cs.length)
    (h : wpList P ops Q rest (a.put op.dst (.agg cs.toArray)) w) : wpList P ops Q (op :: rest) a w :=
  wpList_plain hgd fun _ hK => wp_load_at ty x ho ad hx cs d hc hu hd hi (hK _ _ h)
/-- an element's cells, out of a row that is read -/
theorem Rd.elem {w : World} {lo hi k : Nat} {ad : Addr} {xs : List Value} (h : Rd w lo hi (some ad) xs) (i : Nat) :
    ∀ j v, ((xs.drop (i * k)).take k)[j]? = some v → w.cell? ((ad.add (i * k)).add j) = some v := by
  intro j v hv
  rw [List.getElem?_take] at hv
  split at hv
  · rw [List.getElem?_drop] at hv
    obtain ⟨ad', e, _, _, hc⟩ := h _ v hv
    cases e
    rw [add_twice]
    exact hc
  · cases hv

/-- a whole value laid into a new variable -/
theorem wpList_store_new {ops : Array Oper} {rest : List Oper} {o : Oper} {a : Act} {Q : Exit → Act → World → Prop} (hgd : o.guard = none) (ty : TypeId) (x y : Operand) (ho : o.op = .store ty x y)
    (w0 : World) (zs cs : Array Value) (hx : a.eval x = .pointer (some ⟨w0.heap.size, 0, none⟩)) (hy : a.eval y = .agg cs) (hi : (P.info? ty).map (·.size) = some cs.size) (hs : zs.size = cs.size) (h1 : cs.all (·.oneCell') = true)
    (h : wpList P ops Q rest (a.put o.dst undef) (w0.alloc (.cells cs ty))) : wpList P ops Q (o :: rest) a (w0.alloc (.cells zs ty)) := by
  refine wpList_store_row hgd ty x y ho w0.heap.size cs hx hy ty zs (heap_alloc_new w0 _) hi hs h1 ?_
  rw [World.setRow_alloc_new]
  exact h
theorem wpList_load_rowg {ops : Array Oper} {rest : List Oper} {o : Oper} {a : Act} {w : World} {Q : Exit → Act → World → Prop} (hg : Region.wanted o (yielded ops a.tmps) = true) (ty : TypeId) (x : Operand) (ho : o.op = .load ty x) (g : Nat) (hx : a.eval x = .pointer (some ⟨g, 0, none⟩))
    (t : TypeId) (cs : Array Value) (fr : Nat × Nat) (d : TypeDesc) (hgg : w.heap[g]? = some (.cells cs t fr)) (hu : P.underlying ty = some d) (hd : d.isRow = true) (hi : (P.info? ty).map (·.size) = some cs.size)
    (h : wpList P ops Q rest (a.put o.dst (.agg cs)) w) : wpList P ops Q (o :: rest) a w :=
  wpList_wanted hg fun _ hK => wp_load_row ty x ho g hx t cs fr d hgg hu (by cases d <;> first | rfl | cases hd) hi (hK _ _ h)
theorem all_one {cs : List Value} (h : ∀ u ∈ cs, u.oneCell' = true) : cs.toArray.all (·.oneCell') = true :=
  Array.all_eq_true_iff_forall_mem.2 fun v hv => h v (by simpa using hv)

/-- a slice literal of one struct -/
theorem run_build_one (w : World) (t e : TypeId) (cs : Array Value) (hu : P.underlying t = some (.slice e)) (k : Nat) (hk : 0 < k) (hk2 : k ≤ 1000) (hi : (P.info? e).map (fun i => (i.zero.isSome, i.size)) = some (true, k)) (hc : cs.size = k) :
    (Instr.buildSlice t 1 #[(0, .agg cs)]).run P w = .ok (.slice (some ⟨w.heap.size, 0, none⟩) 1 1) (w.alloc (.cells cs e)) := by
  cases hie : P.info? e with
  | none => simp [hie] at hi
  | some ie =>
    simp only [hie, Option.map_some, Option.some.injEq, Prod.mk.injEq] at hi
    obtain ⟨z, hz⟩ := Option.isSome_iff_exists.1 hi.1
    refine run_buildSlice w t e 1 _ cs ie z hu hie hz (by rw [hi.2]; omega) (by rw [hi.2]; omega) ?_
    have := Great.fill_whole hk [.agg cs] ((Array.range (1 * ie.size)).map (z.cells[· % z.cells.size]!)) (by simp [Value.cells, hc]) (by simp [hi.2])
    rw [hi.2] at this ⊢
    simpa [Value.cells] using this
theorem wpList_build_one {ops : Array Oper} {rest : List Oper} {o : Oper} {a : Act} {w : World} {Q : Exit → Act → World → Prop} (hg : o.guard = none) (t e : TypeId) (x : Operand) (ho : o.op = .buildSlice t 1 #[(0, x)])
    (cs : Array Value) (hx : a.eval x = .agg cs) (hu : P.underlying t = some (.slice e)) (k : Nat) (hk : 0 < k) (hk2 : k ≤ 1000) (hi : (P.info? e).map (fun i => (i.zero.isSome, i.size)) = some (true, k)) (hc : cs.size = k)
    (h : wpList P ops Q rest (a.put o.dst (.slice (some ⟨w.heap.size, 0, none⟩) 1 1)) (w.alloc (.cells cs e))) : wpList P ops Q (o :: rest) a w := by
  refine wpList_plain hg fun K hK => ?_
  unfold Oper.wp execOp
  simp [ho, hx, run_build_one w t e cs hu k hk hk2 hi hc]
  exact hK _ _ h

/-- the same at an operation, for regions that draw their order -/
theorem run_buildE {ev : Operand → Value} {o : Oper} {w w' : World} (t : TypeId) (x : Operand) (ho : o.op = .buildSlice t 1 #[(0, x)]) {cs : Array Value} (hx : ev x = .agg cs) {v : Value} (hr : (Instr.buildSlice t 1 #[(0, .agg cs)]).run P w = .ok v w') : (execOp ev o).run P w = .ok (.value v) w' := by
  unfold execOp
  simp [ho, hx, hr]
theorem run_appendE {ev : Operand → Value} {o : Oper} {w w' : World} (s x : Operand) (t : TypeId) (ho : o.op = .call { callee := .builtin .append, args := #[s, x], argTypes := #[t, t] }) {vs vx v : Value} (hs : ev s = vs) (hx : ev x = vx)
    (hr : (Builtin.append_ #[t, t] o.type #[vs, vx]).run P w = .ok v w') : (execOp ev o).run P w = .ok (.value v) w' := by
  unfold execOp
  simp only [ho, resolve, invoke, builtin, Sem.run_bind, Sem.run_pure, Result.andThen_ok, List.map_toArray, List.map_cons, List.map_nil, hs, hx, hr]
/-- a part of a slice -/
theorem run_slice_lh (t e : TypeId) (size : Nat) (hu : P.underlying t = some (.slice e)) (hi : (P.info? e).map (·.size) = some size) (A : Option Addr) (len cap l h : Nat) (h1 : l ≤ h) (h2 : h ≤ cap) (w : World) :
    (Instr.slice t (.slice A len cap) (some (.int .i64 (l : Int))) (some (.int .i64 (h : Int))) none).run P w = .ok (.slice (if cap = l then A else A.map (·.add (l * size))) (h - l) (cap - l)) w := by
  cases hie : P.info? e with
  | none => simp [hie] at hi
  | some ie =>
    simp only [hie, Option.map_some, Option.some.injEq] at hi
    simp [Instr.slice, run_underlying hu, Instr.sliceBounds, Instr.sliceBound, asIntOf, sizeOf, typeInfo, hie, hi, h1, h2]
theorem run_slice_l (t e : TypeId) (size : Nat) (hu : P.underlying t = some (.slice e)) (hi : (P.info? e).map (·.size) = some size) (A : Option Addr) (len cap l : Nat) (h1 : l ≤ len) (w : World) :
    (Instr.slice t (.slice A len cap) (some (.int .i64 (l : Int))) none none).run P w = .ok (.slice (if cap = l then A else A.map (·.add (l * size))) (len - l) (cap - l)) w := by
  cases hie : P.info? e with
  | none => simp [hie] at hi
  | some ie =>
    simp only [hie, Option.map_some, Option.some.injEq] at hi
    simp [Instr.slice, run_underlying hu, Instr.sliceBounds, Instr.sliceBound, asIntOf, sizeOf, typeInfo, hie, hi, h1]
theorem run_slice_h (t e : TypeId) (size : Nat) (hu : P.underlying t = some (.slice e)) (hi : (P.info? e).map (·.size) = some size) (A : Option Addr) (len cap h : Nat) (h2 : h ≤ cap) (w : World) :
    (Instr.slice t (.slice A len cap) none (some (.int .i64 (h : Int))) none).run P w = .ok (.slice (if cap = 0 then A else A.map (·.add (0 * size))) h cap) w := by
  cases hie : P.info? e with
  | none => simp [hie] at hi
  | some ie =>
    simp only [hie, Option.map_some, Option.some.injEq] at hi
    simp [Instr.slice, run_underlying hu, Instr.sliceBounds, Instr.sliceBound, asIntOf, sizeOf, typeInfo, hie, h2]
theorem run_sliceE {ev : Operand → Value} {o : Oper} {w : World} (t : TypeId) (x : Operand) (l h : Option Operand) (ho : o.op = .slice t x l h none) {e : TypeId} (hu : P.underlying t = some (.slice e)) {A : Option Addr} {n c : Nat} (hx : ev x = .slice A n c) {v : Value} (hr : (Instr.slice t (.slice A n c) (l.map ev) (h.map ev) none).run P w = .ok v w) : (execOp ev o).run P w = .ok (.value v) w := by
  unfold execOp
  simp [ho, hx, Instr.sliceAt, run_underlying hu, hr]
/-- the place of an element -/
theorem run_indexE {ev : Operand → Value} {o : Oper} {w : World} (t : TypeId) (x i : Operand) (ho : o.op = .indexAddr t x i) {e : TypeId} (hu : P.underlying t = some (.slice e)) {size : Nat} (hi : (P.info? e).map (·.size) = some size) {ad : Addr} {n c j : Nat}
    (hx : ev x = .slice (some ad) n c) (hj : ev i = .int .i64 (j : Int)) (h : j < n) : (execOp ev o).run P w = .ok (.value (.pointer (some (ad.add (j * size))))) w := by
  cases hie : P.info? e with
  | none => simp [hie] at hi
  | some ie =>
    simp only [hie, Option.map_some, Option.some.injEq] at hi
    unfold execOp
    simp [ho, hx, hj, Instr.indexAt, run_underlying hu, asIntOf, sizeOf, typeInfo, hie, hi, h]
/-- the bytes of a part of a slice -/
theorem Rd.part {w : World} {lo hi size : Nat} {A : Option Addr} {xs : List Value} (h : Rd w lo hi A xs) (cap l n : Nat) (hc : cap = l → xs.drop (l * size) = []) : Rd w lo hi (if cap = l then A else A.map (·.add (l * size))) ((xs.drop (l * size)).take n) := by
  split
  · rename_i he
    rw [hc he]
    simpa using Rd.nil
  · exact (h.drop (l * size)).take n
/-- 'append(s, x)', s the call's own, x one struct that lies in a block -/
theorem wpList_append_elem {w : World} {ops : Array Oper} {rest : List Oper} {o : Oper} {a : Act} {Q : Exit → Act → World → Prop} (hgd : o.guard = none) (s x : Operand) (t : TypeId)
    (ho : o.op = .call { callee := .builtin .append, args := #[s, x], argTypes := #[t, t] })
    (base : Nat) (e : TypeId) (i : TypeInfo) (z : Value) (size bytes : Nat) (ht : P.underlying t = some (.slice e)) (hi : P.info? e = some i) (hz : i.zero = some z)
    (hsize : i.size = size) (hby : i.bytes = bytes) (hzs : z.cells.size = size) (hsz : 0 < size)
    (v : Value) (n : Nat) (xs : List Value) (hs : a.eval s = v) (hown : w.ownsRow base e size v n xs)
    (g c : Nat) (cs : Array Value) (t' : TypeId) (fr : Nat × Nat) (hx : a.eval x = .slice (some ⟨g, 0, none⟩) 1 c) (hg : w.heap[g]? = some (.cells cs t' fr)) (hcs : cs.size = size) (h1 : ∀ u ∈ cs.toList, u.oneCell' = true)
    (h63 : n + 1 ≤ maxLen) (hbytes : (n + 1) * bytes ≤ 140737488355328) (hbase : base ≤ w.heap.size)
    (h : ∀ v' w', w'.ownsRow base e size v' (n + 1) (xs ++ cs.toList) → w.grownBy w' v.ownBlock → (v'.ownBlock = v.ownBlock ∨ v'.ownBlock = some w.heap.size) → wpList P ops Q rest (a.put o.dst v') w') :
    wpList P ops Q (o :: rest) a w :=
  wpList_append_own_at w hgd s x t ho base e i z size bytes ht hi hz hsize hby hzs hsz v n xs hs hown ⟨g, 0, none⟩ 1 c cs.toList hx (by simp [hcs])
    (fun j u hu => by rw [Addr.add_mid, cell_of_row _ _ _ _ _ _ hg, Nat.zero_add]; simpa using hu) h1 h63 hbytes hbase fun v' w' h2 h3 _ h5 => h v' w' h2 h3 h5
theorem append_elem {w : World} (base : Nat) (t ty e : TypeId) (i : TypeInfo) (z : Value) (size bytes : Nat) (ht : P.underlying t = some (.slice e)) (hi : P.info? e = some i) (hz : i.zero = some z)
    (hsize : i.size = size) (hby : i.bytes = bytes) (hzs : z.cells.size = size) (hsz : 0 < size)
    (v : Value) (n : Nat) (xs : List Value) (hown : w.ownsRow base e size v n xs)
    (g c : Nat) (cs : Array Value) (t' : TypeId) (fr : Nat × Nat) (hg : w.heap[g]? = some (.cells cs t' fr)) (hcs : cs.size = size) (h1 : ∀ u ∈ cs.toList, u.oneCell' = true)
    (h63 : n + 1 ≤ maxLen) (hbytes : (n + 1) * bytes ≤ 140737488355328) (hbase : base ≤ w.heap.size) :
    ∃ v' w', (Builtin.append_ #[t, t] ty #[v, .slice (some ⟨g, 0, none⟩) 1 c]).run P w = .ok v' w' ∧ w'.ownsRow base e size v' (n + 1) (xs ++ cs.toList) ∧ w.grownBy w' v.ownBlock ∧ (v'.ownBlock = v.ownBlock ∨ v'.ownBlock = some w.heap.size) := by
  obtain ⟨v', w', hr, h2, h3, _, h5⟩ := run_append_own_at (P := P) w base t ty e i z size bytes ht hi hz hsize hby hzs hsz v n xs hown ⟨g, 0, none⟩ 1 c cs.toList (by simp [hcs])
    (fun j u hu => by rw [Addr.add_mid, cell_of_row _ _ _ _ _ _ hg, Nat.zero_add]; simpa using hu) h1 h63 hbytes hbase
  exact ⟨v', w', hr, h2, h3, h5⟩
/-- 'append(s, xs...)', s the call's own, xs read, nil or not, k cells an element -/
theorem run_append_rdk {w : World} (base : Nat) (t ty e : TypeId) (i : TypeInfo) (z : Value) (size bytes : Nat) (ht : P.underlying t = some (.slice e)) (hi : P.info? e = some i) (hz : i.zero = some z)
    (hsize : i.size = size) (hby : i.bytes = bytes) (hzs : z.cells.size = size) (hsz : 0 < size)
    (v : Value) (n : Nat) (xs : List Value) (hown : w.ownsRow base e size v n xs)
    (A : Option Addr) (m c : Nat) (news : List Value) (hA : A = none → c = 0) (hl : news.length = m * size) {lo hi' : Nat} (hrd : Rd w lo hi' A news) (h1 : ∀ u ∈ news, u.oneCell' = true)
    (h63 : n + m ≤ maxLen) (hbytes : (n + m) * bytes ≤ 140737488355328) (hbase : base ≤ w.heap.size) :
    ∃ v' w', (Builtin.append_ #[t, t] ty #[v, .slice A m c]).run P w = .ok v' w' ∧ w'.ownsRow base e size v' (n + m) (xs ++ news) ∧ w.grownBy w' v.ownBlock ∧ (v'.ownBlock = v.ownBlock ∨ v'.ownBlock = some w.heap.size) := by
  rcases A with _ | ad
  · have e0 : news = [] := by
      rcases news with _ | ⟨u, r⟩
      · rfl
      · obtain ⟨ad, e, _⟩ := hrd 0 u rfl
        cases e
    subst e0
    have hm : m = 0 := by
      rcases Nat.eq_zero_or_pos m with h | h
      · exact h
      · have := Nat.mul_pos h hsz
        simp at hl
        omega
    have hc : c = 0 := hA rfl
    subst hm hc
    exact ⟨v, w, run_append_owned_none (P := P) (w := w) base t ty e i size ht hi v n xs hown, by simpa using hown, World.grownBy.refl w _, .inl rfl⟩
  · obtain ⟨v', w', hr, h2, h3, _, h5⟩ := run_append_own_at (P := P) w base t ty e i z size bytes ht hi hz hsize hby hzs hsz v n xs hown ad m c news hl (fun j u hu => by
      obtain ⟨ad', e', _, _, hc⟩ := hrd j u hu
      cases e'
      exact hc) h1 h63 hbytes hbase
    exact ⟨v', w', hr, h2, h3, h5⟩
theorem wpList_append_rdk {w : World} {ops : Array Oper} {rest : List Oper} {o : Oper} {a : Act} {Q : Exit → Act → World → Prop} (hgd : o.guard = none) (s x : Operand) (t : TypeId)
    (ho : o.op = .call { callee := .builtin .append, args := #[s, x], argTypes := #[t, t] })
    (base : Nat) (e : TypeId) (i : TypeInfo) (z : Value) (size bytes : Nat) (ht : P.underlying t = some (.slice e)) (hi : P.info? e = some i) (hz : i.zero = some z)
    (hsize : i.size = size) (hby : i.bytes = bytes) (hzs : z.cells.size = size) (hsz : 0 < size)
    (v : Value) (n : Nat) (xs : List Value) (hs : a.eval s = v) (hown : w.ownsRow base e size v n xs)
    (A : Option Addr) (m c : Nat) (news : List Value) (hx : a.eval x = .slice A m c) (hA : A = none → c = 0) (hl : news.length = m * size) {lo hi' : Nat} (hrd : Rd w lo hi' A news) (h1 : ∀ u ∈ news, u.oneCell' = true)
    (h63 : n + m ≤ maxLen) (hbytes : (n + m) * bytes ≤ 140737488355328) (hbase : base ≤ w.heap.size)
    (h : ∀ v' w', w'.ownsRow base e size v' (n + m) (xs ++ news) → w.grownBy w' v.ownBlock → (v'.ownBlock = v.ownBlock ∨ v'.ownBlock = some w.heap.size) → wpList P ops Q rest (a.put o.dst v') w') :
    wpList P ops Q (o :: rest) a w := by
  refine wpList_plain hgd fun K hK => ?_
  obtain ⟨v', w', hr, h2, h3, h4⟩ := run_append_rdk (P := P) (w := w) base t o.type e i z size bytes ht hi hz hsize hby hzs hsz v n xs hown A m c news hA hl hrd h1 h63 hbytes hbase
  unfold Oper.wp execOp
  simp only [ho, resolve, invoke, builtin, Sem.run_bind, Sem.run_pure, Result.andThen_ok, List.map_toArray, List.map_cons, List.map_nil, hs, hx, hr]
  exact hK _ _ (h v' w' h2 h3 h4)
end

/-- what a call owns, over what lies below -/
theorem ownk_below {w w1 : World} {base B k : Nat} {e : TypeId} {v : Value} {n : Nat} {xs : List Value} (h : w.ownsRow base e k v n xs) (hb : Below B w w1) (hB : w.heap.size ≤ B) : w1.ownsRow base e k v n xs := by
  refine ⟨h.1, ?_⟩
  rcases h.2 with ⟨rfl, rfl⟩ | ⟨g, cap, cur, rfl, h1, h2, h3⟩
  · exact .inl ⟨rfl, rfl⟩
  · have hlt := (h.lt g rfl).2
    exact .inr ⟨g, cap, cur, rfl, h1, (hb.block g (by omega)).trans h2, h3⟩
theorem ownk_base {w : World} {b1 b2 k : Nat} {e : TypeId} {v : Value} {n : Nat} {xs : List Value} (h : w.ownsRow b1 e k v n xs) (hb : b2 ≤ b1) : w.ownsRow b2 e k v n xs := by
  refine ⟨h.1, ?_⟩
  rcases h.2 with h | ⟨g, cap, cur, e, h1, h2⟩
  · exact .inl h
  · exact .inr ⟨g, cap, cur, e, by omega, h2⟩
theorem ownk_form {w : World} {base k : Nat} {e : TypeId} {v : Value} {n : Nat} {xs : List Value} (h : w.ownsRow base e k v n xs) : ∃ A c, v = .slice A n c ∧ n ≤ c ∧ c ≤ maxLen ∧ (A = none → c = 0) := by
  rcases h.2 with ⟨rfl, rfl⟩ | ⟨g, cap, cur, rfl, _, _, h3, h4, _⟩
  · exact ⟨none, 0, rfl, Nat.le_refl _, Nat.zero_le _, fun _ => rfl⟩
  · exact ⟨_, _, rfl, h3, h4, fun h => by cases h⟩
theorem ownk_some {w : World} {base k : Nat} {e : TypeId} {v : Value} {n : Nat} {xs : List Value} (h : w.ownsRow base e k v n xs) (hn : 0 < n) : ∃ (g c : Nat) (cur : Array Value), v = .slice (some ⟨g, 0, none⟩) n c ∧ base ≤ g ∧ w.heap[g]? = some (.cells cur e (0, 0)) ∧ n ≤ c ∧ c ≤ maxLen ∧ cur.size = c * k ∧ cur.toList.take (n * k) = xs := by
  rcases h.2 with ⟨_, h0⟩ | ⟨g, cap, cur, h⟩
  · omega
  · exact ⟨g, cap, cur, h⟩
theorem ownk_setCell_other {w : World} {base k : Nat} {e : TypeId} {v : Value} {n : Nat} {xs : List Value} (h : w.ownsRow base e k v n xs) {p : Addr} (hp : ∀ b, v.ownBlock = some b → b ≠ p.block) (u : Value) : (w.setCell p u).ownsRow base e k v n xs := by
  refine ⟨h.1, ?_⟩
  rcases h.2 with h | ⟨g, cap, cur, rfl, h1, h2, h3⟩
  · exact .inl h
  · exact .inr ⟨g, cap, cur, rfl, h1, (heap_setCell_other _ _ _ _ (hp g rfl)).trans h2, h3⟩
theorem ownk_cells_of {w : World} {base k : Nat} {e : TypeId} {v : Value} {n : Nat} {xs : List Value} (h : w.ownsRow base e k v n xs) {g : Nat} (hv : v.ownBlock = some g) : ∃ C, w.heap[g]? = some (.cells C e (0, 0)) := by
  rcases h.2 with ⟨rfl, rfl⟩ | ⟨g', cap, cur, rfl, _, h2, _⟩
  · cases hv
  · simp [Value.ownBlock] at hv
    subst hv
    exact ⟨_, h2⟩
/-- the element type of a row that is owned -/
theorem ownk_type {w : World} {base k : Nat} {e : TypeId} {v : Value} {n : Nat} {xs : List Value} (h : w.ownsRow base e k v n xs) {g : Nat} (hv : v.ownBlock = some g) {C : Array Value} {t : TypeId} {fr : Nat × Nat} (hg : w.heap[g]? = some (.cells C t fr)) : t = e := by
  rcases h.2 with ⟨rfl, rfl⟩ | ⟨g', cap, cur, rfl, _, h2, _⟩
  · cases hv
  · simp [Value.ownBlock] at hv
    subst hv
    rw [hg] at h2
    injection h2 with h2
    injection h2
end Go.Proofs.Ytebflcpoecolbaa
