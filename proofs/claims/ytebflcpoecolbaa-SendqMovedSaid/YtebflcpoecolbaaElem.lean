/-
  Rows of plain structs, for any element: their cells, slices that read as such rows, loads of a cell in a quiet walk. No condition.
-/
import Derived.Test.YtebflcpoecolbaaKit
import Derived.Test.YtebflcpoecolbaaShape
import Derived.Laws.StructEq
import Derived.Laws.CopyRow
import Derived.Lib.QuietBelow
import Derived.BigQuiet
namespace Go.Proofs.Ytebflcpoecolbaa
open Go.RowKit

theorem parts_of {P : Program} {t : TypeId} {z : Value} {k b : Nat} (h : (P.info? t).map (fun i => (i.zero, i.size, i.bytes)) = some (some z, k, b)) : ∃ i0, P.info? t = some i0 ∧ i0.zero = some z ∧ i0.size = k ∧ i0.bytes = b := by
  cases h0 : P.info? t with
  | none => simp [h0] at h
  | some i0 =>
    simp only [h0, Option.map_some, Option.some.injEq, Prod.mk.injEq] at h
    exact ⟨i0, rfl, h.1, h.2.1, h.2.2⟩
/-- an element of k plain cells -/
structure El {α : Type} (f : α → Array Value) (k : Nat) : Prop where
  size : ∀ a, (f a).size = k
  one : ∀ a, (f a).all (·.oneCell') = true
def rowsOf {α : Type} (f : α → Array Value) (K : List α) : List Value := K.flatMap fun a => (f a).toList
/-- cells that are read in whatever blocks there are -/
def Rs (w : World) (A : Option Addr) (xs : List Value) : Prop := Rd w 0 w.heap.size A xs
/-- a slice that reads as a row -/
def SlT {α : Type} (f : α → Array Value) (w : World) (v : Value) (K : List α) : Prop :=
  ∃ A c, v = .slice A K.length c ∧ Rs w A (rowsOf f K) ∧ (A = none → c = 0) ∧ K.length ≤ c ∧ c ≤ maxLen
theorem Rs.rd {w : World} {A : Option Addr} {xs : List Value} (h : Rs w A xs) : Rd w 0 w.heap.size A xs := h
theorem Rs.nil {w : World} {A : Option Addr} : Rs w A [] := Rd.nil
theorem Rs.below {w w' : World} {A : Option Addr} {xs : List Value} {B : Nat} (h : Rs w A xs) (hb : Below B w w') (hB : w.heap.size ≤ B) : Rs w' A xs := (Rd.below h hb hB).wide (Nat.le_refl _) hb.size
theorem Rs.alloc {w : World} {A : Option Addr} {xs : List Value} (h : Rs w A xs) (o : Obj) : Rs (w.alloc o) A xs := h.below ((Below.refl w.heap.size w).alloc (Nat.le_refl _) o) (Nat.le_refl _)
section
variable {α : Type} {f : α → Array Value} {k : Nat} {w w' : World} {v : Value} {K : List α}
theorem rows_nil : rowsOf f ([] : List α) = [] := rfl
theorem rows_cons (a : α) (K : List α) : rowsOf f (a :: K) = (f a).toList ++ rowsOf f K := rfl
theorem rows_one_el (a : α) : rowsOf f [a] = (f a).toList := by simp [rowsOf]
theorem rows_append (K M : List α) : rowsOf f (K ++ M) = rowsOf f K ++ rowsOf f M := by simp [rowsOf]
theorem rows_length (E : El f k) (K : List α) : (rowsOf f K).length = K.length * k := by
  induction K with
  | nil => simp [rows_nil]
  | cons b K ih => rw [rows_cons, List.length_append, ih, List.length_cons, Array.length_toList, E.size, Nat.add_one_mul]; omega
theorem rows_drop (E : El f k) (K : List α) (i : Nat) : (rowsOf f K).drop (i * k) = rowsOf f (K.drop i) := by
  induction K generalizing i with
  | nil => simp [rows_nil]
  | cons b K ih => cases i with
    | zero => simp
    | succ i => rw [rows_cons, show (i + 1) * k = (f b).toList.length + i * k from by rw [Array.length_toList, E.size, Nat.add_one_mul]; omega, List.drop_append, Nat.add_sub_cancel_left, ih]; simp
theorem rows_take (E : El f k) (K : List α) (i : Nat) : (rowsOf f K).take (i * k) = rowsOf f (K.take i) := by
  induction K generalizing i with
  | nil => simp [rows_nil]
  | cons b K ih => cases i with
    | zero => simp [rows_nil]
    | succ i => rw [rows_cons, show (i + 1) * k = (f b).toList.length + i * k from by rw [Array.length_toList, E.size, Nat.add_one_mul]; omega, List.take_append, Nat.add_sub_cancel_left, ih, List.take_succ_cons, rows_cons, List.take_of_length_le (Nat.le_add_right _ _)]
theorem rows_at (E : El f k) (K : List α) (i : Nat) (a : α) (h : K[i]? = some a) : ((rowsOf f K).drop (i * k)).take k = (f a).toList := by
  rw [rows_drop E, List.drop_eq_getElem?_toList_append, h]
  show (List.take k (rowsOf f (a :: K.drop (i + 1)))) = _
  rw [rows_cons, List.take_append_of_le_length (by rw [Array.length_toList, E.size]; exact Nat.le_refl _), List.take_of_length_le (by rw [Array.length_toList, E.size]; exact Nat.le_refl _)]
theorem rows_cell (E : El f k) (K : List α) (i : Nat) (a : α) (h : K[i]? = some a) (j : Nat) (v : Value) (hv : (f a)[j]? = some v) : (rowsOf f K)[i * k + j]? = some v := by
  have hj := (Array.getElem?_eq_some_iff.1 hv).1
  rw [E.size] at hj
  have := congrArg (·[j]?) (rows_at E K i a h)
  simp only [List.getElem?_take, List.getElem?_drop, if_pos hj] at this
  rw [this]
  simpa using hv
theorem rows_ones (E : El f k) (K : List α) : ∀ u ∈ rowsOf f K, u.oneCell' = true := by
  intro u hu
  simp only [rowsOf, List.mem_flatMap] at hu
  obtain ⟨b, _, hb⟩ := hu
  exact Array.all_eq_true_iff_forall_mem.1 (E.one b) u (by simpa using hb)
theorem el_ones (E : El f k) (a : α) : ∀ u ∈ (f a).toList, u.oneCell' = true := fun u hu => Array.all_eq_true_iff_forall_mem.1 (E.one a) u (by simpa using hu)
theorem rows_set (E : El f k) (K : List α) (i : Nat) (hi : i < K.length) (a : α) : (rowsOf f K).take (i * k) ++ (f a).toList ++ (rowsOf f K).drop (i * k + k) = rowsOf f (K.set i a) := by
  rw [List.set_eq_take_append_cons_drop, if_pos hi, rows_append, rows_cons, rows_take E, show i * k + k = (i + 1) * k from by rw [Nat.add_one_mul], rows_drop E, List.append_assoc]
theorem SlT.nil : SlT f w (.slice none 0 0) [] := ⟨none, 0, rfl, Rs.nil, fun _ => rfl, Nat.le_refl _, Nat.zero_le _⟩
theorem SlT.below {B : Nat} (h : SlT f w v K) (hb : Below B w w') (hB : w.heap.size ≤ B := by first | exact Nat.le_refl _ | simp) : SlT f w' v K := by
  obtain ⟨A, c, q, h1, h2⟩ := h
  exact ⟨A, c, q, h1.below hb hB, h2⟩
theorem SlT.alloc (h : SlT f w v K) (o : Obj) : SlT f (w.alloc o) v K := h.below ((Below.refl _ _).alloc (Nat.le_refl _) o)
theorem SlT.one (h : SlT f w v K) : v.oneCell' = true := by
  obtain ⟨A, c, rfl, _⟩ := h
  rfl
theorem SlT.own {base : Nat} {e : TypeId} (h : w.ownsRow base e k v K.length (rowsOf f K)) : SlT f w v K := by
  obtain ⟨A, c, rfl, h1, h2, h3⟩ := ownk_form h
  exact ⟨A, c, rfl, (Tr.own h).rd.wide (Nat.zero_le _) (Nat.le_refl _), h3, h1, h2⟩
theorem el_cells (E : El f k) {A : Option Addr} (h : Rs w A (rowsOf f K)) (hk0 : 0 < k) {i : Nat} {a : α} (hi : K[i]? = some a) : ∃ ad, A = some ad ∧ ∀ (j : Nat) v, (f a)[j]? = some v → w.cell? ((ad.add (i * k)).add j) = some v := by
  have hx := h.rd
  have hlt := (List.getElem?_eq_some_iff.1 hi).1
  have hp : i * k < (rowsOf f K).length := by
    rw [rows_length E]
    exact Nat.mul_lt_mul_of_pos_right hlt hk0
  obtain ⟨ad, rfl, _⟩ := hx (i * k) _ (List.getElem?_eq_getElem hp)
  refine ⟨ad, rfl, fun j v hv => ?_⟩
  obtain ⟨ad', q, _, _, hc⟩ := hx _ v (rows_cell E K i a hi j v hv)
  cases q
  rw [add_twice]
  exact hc
/-- all cells of an element, kept over all that only adds -/
theorem el_all (E : El f k) {A : Option Addr} (h : Rs w A (rowsOf f K)) (hk0 : 0 < k) {i : Nat} {a : α} (hi : K[i]? = some a) : ∃ ad, A = some ad ∧ ∀ w', Below w.heap.size w w' → ∀ (j : Nat) v, (f a)[j]? = some v → w'.cell? ((ad.add (i * k)).add j) = some v := by
  obtain ⟨ad, q, _⟩ := el_cells E h hk0 hi
  refine ⟨ad, q, fun w' hb => ?_⟩
  obtain ⟨ad', q', h2⟩ := el_cells E (h.below hb (Nat.le_refl _)) hk0 hi
  rw [q] at q'
  cases q'
  exact h2
end

/-! ### loads in a quiet walk -/
abbrev Reg (w : World) (w' : World) : Prop := ∃ p : Regrown, w' = Sort.grow (redrawn w p.d) p.os
theorem reg_below {w w' : World} (h : Reg w w') : Below w.heap.size w w' := by
  obtain ⟨p, rfl⟩ := h
  exact below_regrown w p.d p.os
section
variable {P : Program} {ops : Array Oper} {C : World → Prop} {K : Act → Prop} {o : Oper} {a : Act}
theorem quiet_load_at (hg : Region.wanted o (yielded ops a.tmps) = true) (ty : TypeId) (x : Operand) (ho : o.op = .load ty x) (ad : Addr) (hx : a.eval x = .pointer (some ad)) (cs : Array Value) (d : TypeDesc)
    (hgg : ∀ w, C w → ∀ (j : Nat) v, cs[j]? = some v → w.cell? (ad.add j) = some v) (hu : P.underlying ty = some d) (hd : d.isRow = true) (hi : (P.info? ty).map (·.size) = some cs.size) (h : K (a.put o.dst (.agg cs))) :
    if Region.wanted o (yielded ops a.tmps) = true then o.quiet P a C K else K (a.put o.dst undef) := by
  rw [if_pos hg]
  refine ⟨.agg cs, fun w hw => ?_, h⟩
  have hl := run_loadVar_any (P := P) w ad ty cs.toList d (fun j v hv => hgg w hw j v (by simpa using hv)) hu hd (by rw [hi, Array.length_toList])
  rw [Array.toArray_toList] at hl
  unfold Oper.quietAt execOp
  simp only [ho, hx, Instr.loadAt, Instr.sureAddr, Sem.run_bind, Sem.run_pure, Result.andThen_ok, hl]
  exact ⟨rfl, rfl⟩
theorem run_loadVar_cell (w : World) (ad : Addr) (ty : TypeId) (v : Value) (d : TypeDesc) (hc : w.cell? ad = some v) (hu : P.underlying ty = some d) (hd : d.isRow = false) : (loadVar ty ad).run P w = .ok v w := by
  have hi : (isAgg ty).run P w = .ok false w := by
    cases d <;> first | (cases hd; done) | simp [isAgg, Sem.run_bind, run_underlying hu]
  unfold loadVar
  simp [Sem.run_bind, hi, hc]
theorem quiet_load_cell (hg : Region.wanted o (yielded ops a.tmps) = true) (ty : TypeId) (x : Operand) (ho : o.op = .load ty x) (ad : Addr) (hx : a.eval x = .pointer (some ad)) (v : Value) (d : TypeDesc)
    (hgg : ∀ w, C w → w.cell? ad = some v) (hu : P.underlying ty = some d) (hd : d.isRow = false) (h : K (a.put o.dst v)) :
    if Region.wanted o (yielded ops a.tmps) = true then o.quiet P a C K else K (a.put o.dst undef) := by
  rw [if_pos hg]
  refine ⟨v, fun w hw => ?_, h⟩
  have hl := run_loadVar_cell (P := P) w ad ty v d (hgg w hw) hu hd
  unfold Oper.quietAt execOp
  simp only [ho, hx, Instr.loadAt, Instr.sureAddr, Sem.run_bind, Sem.run_pure, Result.andThen_ok, hl]
  exact ⟨rfl, rfl⟩
end

/-! ### loads and stores of whole structs -/
section
variable {P : Program}
theorem wpList_load_atA {w : World} {ops : Array Oper} {rest : List Oper} {op : Oper} {a : Act} {Q : Exit → Act → World → Prop} (hgd : op.guard = none) (ty : TypeId) (x : Operand) (ho : op.op = .load ty x)
    (ad : Addr) (hx : a.eval x = .pointer (some ad)) (C : Array Value) (d : TypeDesc) (hc : ∀ (j : Nat) v, C[j]? = some v → w.cell? (ad.add j) = some v)
    (hu : P.underlying ty = some d) (hd : d.isRow = true) (hi : (P.info? ty).map (·.size) = some C.size)
    (h : wpList P ops Q rest (a.put op.dst (.agg C)) w) : wpList P ops Q (op :: rest) a w := by
  have := wpList_load_at (P := P) (ops := ops) (rest := rest) (op := op) (a := a) (w := w) (Q := Q) hgd ty x ho ad hx C.toList d (fun j v hv => hc j v (by simpa using hv)) hu hd (by rw [hi, Array.length_toList])
  rw [Array.toArray_toList] at this
  exact this h
/-- a whole struct laid into an element of a row -/
theorem run_storeVar_elem (w : World) (g o : Nat) (ty : TypeId) (cur C : Array Value) (t : TypeId) (hg : w.heap[g]? = some (.cells cur t (0, 0))) (ho : o + C.size ≤ cur.size) (hi : (P.info? ty).map (·.size) = some C.size) (h1 : C.all (·.oneCell') = true) :
    (storeVar ty ⟨g, o, none⟩ (.agg C)).run P w = .ok () (w.setRow g (cur.toList.take o ++ C.toList ++ cur.toList.drop (o + C.size)).toArray) := by
  have this := run_storeCells_at (P := P) g o t C.toList 0 cur w hg (by rw [Array.length_toList]; omega) (fun v hv => Array.all_eq_true_iff_forall_mem.1 h1 v (by simpa using hv))
  rw [Nat.add_zero, Array.length_toList] at this
  cases hq : P.info? ty with
  | none => simp [hq] at hi
  | some i =>
    have hs : C.size = i.size := by simp [hq] at hi; omega
    simp [storeVar, sizeOf, typeInfo, hq, Value.cells, hs, this]
theorem wpList_store_elem {w : World} {ops : Array Oper} {rest : List Oper} {op : Oper} {a : Act} {Q : Exit → Act → World → Prop} (hgd : op.guard = none) (ty : TypeId) (x y : Operand) (ho : op.op = .store ty x y)
    (g o : Nat) (C : Array Value) (hx : a.eval x = .pointer (some ⟨g, o, none⟩)) (hy : a.eval y = .agg C) (cur : Array Value) (t : TypeId) (hg : w.heap[g]? = some (.cells cur t (0, 0))) (hsz : o + C.size ≤ cur.size)
    (hi : (P.info? ty).map (·.size) = some C.size) (h1 : C.all (·.oneCell') = true)
    (cur2 : Array Value) (hcur2 : (cur.toList.take o ++ C.toList ++ cur.toList.drop (o + C.size)).toArray = cur2)
    (h : wpList P ops Q rest (a.put op.dst undef) (w.setRow g cur2)) : wpList P ops Q (op :: rest) a w := by
  subst hcur2
  refine wpList_plain hgd fun K hK => ?_
  unfold Oper.wp execOp
  simp only [ho, hx, hy, Instr.storeAt, Instr.sureAddr, Sem.run_bind, Sem.run_pure, Result.andThen_ok, run_storeVar_elem w g o ty cur C t hg hsz hi h1]
  exact hK _ _ h
end

/-! ### where something stands first -/
theorem idx_some {α : Type} {p : α → Bool} {l : List α} {k : Nat} {a : α} (hk : l[k]? = some a) (hp : p a = true) (hno : ∀ j h, j < k → l[j]? = some h → p h = false) : l.findIdx? p = some k := by
  have hlt := (List.getElem?_eq_some_iff.1 hk).1
  rw [List.findIdx?_eq_some_iff_getElem]
  refine ⟨hlt, by rw [(List.getElem?_eq_some_iff.1 hk).2]; exact hp, fun j hj => ?_⟩
  rw [hno j _ hj (List.getElem?_eq_getElem (by omega))]
  simp
theorem idx_none {α : Type} {p : α → Bool} {l : List α} (hno : ∀ j h, j < l.length → l[j]? = some h → p h = false) : l.findIdx? p = none := by
  refine List.findIdx?_eq_none_iff.2 fun x hx => ?_
  obtain ⟨j, hj, rfl⟩ := List.mem_iff_getElem.1 hx
  exact hno j _ hj (List.getElem?_eq_getElem hj)
theorem no_next {α : Type} {p : α → Bool} {l : List α} {k : Nat} {a : α} (hno : ∀ j h, j < k → l[j]? = some h → p h = false) (hk : l[k]? = some a) (hp : p a = false) : ∀ j h, j < k + 1 → l[j]? = some h → p h = false := fun j h hj hh => by
  by_cases hjk : j < k
  · exact hno j h hjk hh
  · obtain rfl : j = k := by omega
    rw [hk] at hh
    injection hh with hh
    rw [← hh]
    exact hp
theorem ret_tmp2 {P : Program} {fn : Func} {R : Ending → World → Prop} {a : Act} {w : World} {u u1 : Tmp} (h : fn.results = #[.tmp u, .tmp u1]) (hdf : a.defers = []) (hR : R (.returned (.tuple #[a.tmps.getD u undef, a.tmps.getD u1 undef])) w) : bodyPost P fn R .ret a w := by
  refine bodyPost_ret (v := .tuple #[a.tmps.getD u undef, a.tmps.getD u1 undef]) ?_ hdf hR
  simp [results, h]
theorem four_cells {w : World} {b : Nat} {v0 v1 v2 v3 : Value} {t : TypeId} {fr : Nat × Nat} (h : w.heap[b]? = some (.cells #[v0, v1, v2, v3] t fr)) :
    w.cell? ⟨b, 0, none⟩ = some v0 ∧ w.cell? ⟨b, 1, none⟩ = some v1 ∧ w.cell? ⟨b, 2, none⟩ = some v2 ∧ w.cell? ⟨b, 3, none⟩ = some v3 := by
  refine ⟨?_, ?_, ?_, ?_⟩ <;> (rw [cell_of_row _ _ _ _ _ _ h]; rfl)
/-- a slice of structs, as an argument -/
theorem sl_of {α : Type} {f : α → Array Value} {k : Nat} (E : El f k) (hk0 : 0 < k) {s : Sh} (hs : s.size = k) {Pr : α → Prop} {w : World} (hok : ∀ cs, s.ok w cs → ∃ a, cs = (f a).toList ∧ Pr a) {A : Option Addr} {len cap : Nat} (h : (Sh.sl s).ok w [.slice A len cap]) :
    ∃ l : List α, l.length = len ∧ SlT f w (.slice A len cap) l ∧ (∀ a ∈ l, Pr a) ∧ len ≤ 140737488351232 := by
  rcases h with h | ⟨ad, len', cap', h, h1, h2, h3⟩
  · simp at h
    obtain ⟨rfl, rfl, rfl⟩ := h
    exact ⟨[], rfl, SlT.nil, by simp, Nat.zero_le _⟩
  · simp at h
    obtain ⟨rfl, rfl, rfl⟩ := h
    rw [hs] at h3
    have h5 : ∀ n, n ≤ len → ∃ l : List α, l.length = n ∧ (∀ i a, l[i]? = some a → ∀ j u, (f a)[j]? = some u → w.cell? (ad.add (i * k + j)) = some u) ∧ ∀ a ∈ l, Pr a := by
      intro n
      induction n with
      | zero => intro _; exact ⟨[], rfl, by simp, by simp⟩
      | succ n ih =>
        intro hn
        obtain ⟨l, hl, hc, hp⟩ := ih (by omega)
        obtain ⟨c, _, hcc, hco⟩ := h3 n (by omega)
        obtain ⟨a, rfl, ha⟩ := hok c hco
        refine ⟨l ++ [a], by simp [hl], fun i b hb => ?_, fun b hb => ?_⟩
        · rcases Nat.lt_or_ge i l.length with hi | hi
          · rw [List.getElem?_append_left hi] at hb
            exact hc i b hb
          · rw [List.getElem?_append_right hi] at hb
            have hi0 : i - l.length = 0 := by
              have := (List.getElem?_eq_some_iff.1 hb).1
              simp at this
              omega
            rw [hi0] at hb
            simp at hb
            subst hb
            rw [show i = n from by omega]
            exact fun j u hu => hcc j u (by rw [Array.getElem?_toList]; exact hu)
        · rcases List.mem_append.1 hb with hb | hb
          · exact hp b hb
          · simp at hb
            subst hb
            exact ha
    obtain ⟨l, hl, hc, hp⟩ := h5 len (Nat.le_refl _)
    refine ⟨l, hl, ⟨some ad, cap, by rw [hl], fun m u hu => ?_, fun h => (by cases h), by rw [hl]; exact h1, by unfold maxLen; omega⟩, hp, Nat.le_trans h1 h2⟩
    have hm := (List.getElem?_eq_some_iff.1 hu).1
    rw [rows_length E] at hm
    have hi : m / k < l.length := Nat.div_lt_of_lt_mul (by rw [Nat.mul_comm]; exact hm)
    have hj : m % k < k := Nat.mod_lt _ hk0
    obtain ⟨b, hb⟩ : ∃ b, l[m / k]? = some b := ⟨_, List.getElem?_eq_getElem hi⟩
    obtain ⟨u2, hu2⟩ : ∃ u2, (f b)[m % k]? = some u2 := ⟨_, Array.getElem?_eq_getElem (by rw [E.size]; exact hj)⟩
    have h6 := rows_cell E l (m / k) b hb (m % k) u2 hu2
    have hmk : m / k * k + m % k = m := Nat.div_add_mod' m k
    rw [hmk, hu] at h6
    injection h6 with h6
    have h7 := hc (m / k) b hb (m % k) u2 hu2
    rw [hmk, ← h6] at h7
    have h8 := cell_lt h7
    rw [blk_add] at h8
    exact ⟨ad, rfl, Nat.zero_le _, h8, h7⟩
/-- an element of one cell -/
theorem el_one1 {α : Type} {f : α → Array Value} (E : El f 1) {w : World} {A : Option Addr} {K : List α} (h : Rs w A (rowsOf f K)) {i : Nat} {a : α} (hi : K[i]? = some a) {v : Value} (hv : (f a)[0]? = some v) : ∃ ad, A = some ad ∧ ∀ w', Below w.heap.size w w' → w'.cell? (ad.add i) = some v := by
  have h0 := rows_cell E K i a hi 0 v hv
  rw [Nat.mul_one, Nat.add_zero] at h0
  obtain ⟨ad, e, _, _, _⟩ := h i v h0
  refine ⟨ad, e, fun w' hb => ?_⟩
  obtain ⟨ad', e', _, _, hc⟩ := (h.below hb (Nat.le_refl _)) i v h0
  rw [e] at e'
  cases e'
  exact hc
/-- numbers of 64 bits, truths -/
def uA (n : Nat) : Array Value := #[.int .u64 (n : Int)]
def bA (b : Bool) : Array Value := #[.bool b]
theorem uE : El uA 1 := ⟨fun _ => rfl, fun _ => by simp [uA, Value.oneCell']⟩
theorem bE : El bA 1 := ⟨fun _ => rfl, fun _ => by simp [bA, Value.oneCell']⟩
theorem u64_of {z : Int} (h : (Lit.int .u64 z).wf = true) : ∃ n : Nat, z = (n : Int) ∧ n < 18446744073709551616 := by
  simp [Lit.wf, IntKind.min, IntKind.max, IntKind.signed, IntKind.bits] at h
  exact ⟨z.toNat, by omega, by omega⟩
theorem u8_of {z : Int} (h : (Lit.int .u8 z).wf = true) : ∃ n : Nat, z = (n : Int) ∧ n < 256 := by
  simp [Lit.wf, IntKind.min, IntKind.max, IntKind.signed, IntKind.bits] at h
  exact ⟨z.toNat, by omega, by omega⟩
theorem i64_of {z : Int} (h : (Lit.int .i64 z).wf = true) : I64 z := by
  simp [Lit.wf, IntKind.min, IntKind.max, IntKind.signed, IntKind.bits] at h
  unfold I64
  omega
theorem us_of {w : World} {A : Option Addr} {len cap : Nat} (h : (Sh.sl (.num .u64)).ok w [.slice A len cap]) : ∃ l : List Nat, l.length = len ∧ SlT uA w (.slice A len cap) l ∧ (∀ n ∈ l, n < 18446744073709551616) ∧ len ≤ 140737488351232 :=
  sl_of (s := .num .u64) (Pr := fun n => n < 18446744073709551616) uE (by decide) rfl (fun cs h => by
    obtain ⟨z, e, hw⟩ := h
    obtain ⟨n, rfl, hn⟩ := u64_of hw
    exact ⟨n, e, hn⟩) h
theorem bs_of {w : World} {A : Option Addr} {len cap : Nat} (h : (Sh.sl .bit).ok w [.slice A len cap]) : ∃ l : List Bool, l.length = len ∧ SlT bA w (.slice A len cap) l ∧ (∀ b ∈ l, (fun _ => True) b) ∧ len ≤ 140737488351232 :=
  sl_of (s := .bit) (Pr := fun _ => True) bE (by decide) rfl (fun cs h => by
    obtain ⟨b, e⟩ := h
    exact ⟨b, e, trivial⟩) h
/-! ### slices whose rows lie in blocks of their element's type -/
def TlT {α : Type} (e : TypeId) (f : α → Array Value) (w : World) (v : Value) (K : List α) : Prop :=
  ∃ A c, v = .slice A K.length c ∧ Tr w 0 e A (rowsOf f K) ∧ (A = none → c = 0) ∧ K.length ≤ c ∧ c ≤ maxLen
section
variable {α : Type} {f : α → Array Value} {k : Nat} {w w' : World} {v : Value} {K : List α} {e : TypeId}
theorem TlT.slt (h : TlT e f w v K) : SlT f w v K := by
  obtain ⟨A, c, q, h1, h2⟩ := h
  exact ⟨A, c, q, h1.rd, h2⟩
theorem TlT.nil : TlT e f w (.slice none 0 0) [] := ⟨none, 0, rfl, Tr.nil, fun _ => rfl, Nat.le_refl _, Nat.zero_le _⟩
theorem TlT.below {B : Nat} (h : TlT e f w v K) (hb : Below B w w') (hB : w.heap.size ≤ B := by first | exact Nat.le_refl _ | simp) : TlT e f w' v K := by
  obtain ⟨A, c, q, h1, h2⟩ := h
  exact ⟨A, c, q, h1.below hb hB, h2⟩
theorem TlT.alloc (h : TlT e f w v K) (o : Obj) : TlT e f (w.alloc o) v K := h.below ((Below.refl _ _).alloc (Nat.le_refl _) o)
theorem TlT.setRow (h : TlT e f w v K) {g : Nat} {C : Array Value} {t : TypeId} {fr : Nat × Nat} (hg : w.heap[g]? = some (.cells C t fr)) (ht : t ≠ e) (cs : Array Value) : TlT e f (w.setRow g cs) v K := by
  obtain ⟨A, c, q, h1, h2⟩ := h
  exact ⟨A, c, q, h1.setRow hg ht cs, h2⟩
theorem TlT.keep (h : TlT e f w v K) (hk : ∀ (g : Nat) (C : Array Value), w.heap[g]? = some (.cells C e (0, 0)) → w'.heap[g]? = w.heap[g]?) : TlT e f w' v K := by
  obtain ⟨A, c, q, h1, h2⟩ := h
  exact ⟨A, c, q, h1.keep fun g C _ hg => hk g C hg, h2⟩
theorem TlT.one (h : TlT e f w v K) : v.oneCell' = true := by
  obtain ⟨A, c, rfl, _⟩ := h
  rfl
theorem TlT.own {base : Nat} (h : w.ownsRow base e k v K.length (rowsOf f K)) : TlT e f w v K := by
  obtain ⟨A, c, rfl, h1, h2, h3⟩ := ownk_form h
  exact ⟨A, c, rfl, (Tr.own h).wide (Nat.zero_le _), h3, h1, h2⟩
end
end Go.Proofs.Ytebflcpoecolbaa
