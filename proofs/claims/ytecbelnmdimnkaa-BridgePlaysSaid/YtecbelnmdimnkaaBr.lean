/-
  A bridge's words: cards, what is learnt, rows of what is learnt and of ports; how a bridge lies in memory; whether two cards are one. No condition.
-/
import Derived.Test.YtecbelnmdimnkaaKit
import Derived.Laws.StructEq
import Derived.Laws.CopyRow
namespace Go.Proofs.Ytecbelnmdimnkaa
open Go.RowKit

theorem info_u8 : (Try.prog.info? 5).map (fun i => (i.zero, i.size, i.bytes)) = some (some (.int .u8 0), 1, 1) := by kernel_rfl
theorem info_in : (Try.prog.info? 3).map (fun i => (i.zero, i.size, i.bytes)) = some (some (.int .i64 0), 1, 8) := by kernel_rfl
theorem info_ln : (Try.prog.info? 58).map (fun i => (i.zero, i.size, i.bytes)) = some (some (.agg #[.int .u8 0, .int .u8 0, .int .u8 0, .int .u8 0, .int .u8 0, .int .u8 0, .int .i64 0]), 7, 16) := by kernel_rfl
theorem info_parts {t : TypeId} {z : Value} {k b : Nat} (h : (Try.prog.info? t).map (fun i => (i.zero, i.size, i.bytes)) = some (some z, k, b)) : ∃ i0, Try.prog.info? t = some i0 ∧ i0.zero = some z ∧ i0.size = k ∧ i0.bytes = b := by
  cases h0 : Try.prog.info? t with
  | none => simp [h0] at h
  | some i0 =>
    simp only [h0, Option.map_some, Option.some.injEq, Prod.mk.injEq] at h
    exact ⟨i0, rfl, h.1, h.2.1, h.2.2⟩

/-- a card's address -/
structure Mac where
  x0 : UInt8
  x1 : UInt8
  x2 : UInt8
  x3 : UInt8
  x4 : UInt8
  x5 : UInt8
deriving DecidableEq
/-- at which port a card is -/
structure Ln where
  m : Mac
  p : Nat
deriving DecidableEq
def Mac.bytes (a : Mac) : List UInt8 := [a.x0, a.x1, a.x2, a.x3, a.x4, a.x5]
def macL (a : Mac) : List Value := cells a.bytes
def macA (a : Mac) : Array Value := #[.int .u8 (a.x0.toNat : Int), .int .u8 (a.x1.toNat : Int), .int .u8 (a.x2.toNat : Int), .int .u8 (a.x3.toNat : Int), .int .u8 (a.x4.toNat : Int), .int .u8 (a.x5.toNat : Int)]
def lnA (l : Ln) : Array Value := #[.int .u8 (l.m.x0.toNat : Int), .int .u8 (l.m.x1.toNat : Int), .int .u8 (l.m.x2.toNat : Int), .int .u8 (l.m.x3.toNat : Int), .int .u8 (l.m.x4.toNat : Int), .int .u8 (l.m.x5.toNat : Int), .int .i64 (l.p : Int)]
def lns (K : List Ln) : List Value := K.flatMap fun l => (lnA l).toList
def ints (L : List Nat) : List Value := L.map fun (n : Nat) => Value.int .i64 (n : Int)
theorem macA_size (a : Mac) : (macA a).size = 6 := rfl
theorem lnA_size (l : Ln) : (lnA l).size = 7 := rfl
theorem macA_cells (a : Mac) : macA a = (cells a.bytes).toArray := rfl
theorem macA_one (a : Mac) : (macA a).all (·.oneCell') = true := by simp [macA, Value.oneCell']
theorem lnA_one (l : Ln) : (lnA l).all (·.oneCell') = true := by simp [lnA, Value.oneCell']
theorem lnA_mac (l : Ln) (j : Nat) (v : Value) (h : (macA l.m)[j]? = some v) : (lnA l)[j]? = some v := by
  have hj := (Array.getElem?_eq_some_iff.1 h).1
  rw [macA_size] at hj
  rcases j with _ | _ | _ | _ | _ | _ | j
  · exact h
  · exact h
  · exact h
  · exact h
  · exact h
  · exact h
  · omega
theorem lnA_port (l : Ln) : (lnA l)[6]? = some (.int .i64 (l.p : Int)) := rfl
theorem lns_nil : lns [] = [] := rfl
theorem lns_cons (l : Ln) (K : List Ln) : lns (l :: K) = (lnA l).toList ++ lns K := rfl
theorem lns_append (K M : List Ln) : lns (K ++ M) = lns K ++ lns M := by simp [lns]
theorem lns_length (K : List Ln) : (lns K).length = K.length * 7 := by
  induction K with
  | nil => rfl
  | cons b K ih => rw [lns_cons, List.length_append, ih, List.length_cons, Array.length_toList, lnA_size]; omega
theorem lns_drop (K : List Ln) (i : Nat) : (lns K).drop (i * 7) = lns (K.drop i) := by
  induction K generalizing i with
  | nil => simp [lns]
  | cons b K ih => cases i with
    | zero => simp
    | succ i => rw [lns_cons, show (i + 1) * 7 = (lnA b).toList.length + i * 7 from by rw [Array.length_toList, lnA_size]; omega, List.drop_append, Nat.add_sub_cancel_left, ih]; simp
theorem lns_take (K : List Ln) (i : Nat) : (lns K).take (i * 7) = lns (K.take i) := by
  induction K generalizing i with
  | nil => simp [lns]
  | cons b K ih => cases i with
    | zero => simp [lns]
    | succ i => rw [lns_cons, show (i + 1) * 7 = (lnA b).toList.length + i * 7 from by rw [Array.length_toList, lnA_size]; omega, List.take_append, Nat.add_sub_cancel_left, ih, List.take_succ_cons, lns_cons, List.take_of_length_le (Nat.le_add_right _ _)]
theorem lns_at (K : List Ln) (i : Nat) (l : Ln) (h : K[i]? = some l) : ((lns K).drop (i * 7)).take 7 = (lnA l).toList := by
  rw [lns_drop, List.drop_eq_getElem?_toList_append, h]
  rfl
theorem lns_cell (K : List Ln) (i : Nat) (l : Ln) (h : K[i]? = some l) (j : Nat) (v : Value) (hv : (lnA l)[j]? = some v) : (lns K)[i * 7 + j]? = some v := by
  have hj := (Array.getElem?_eq_some_iff.1 hv).1
  rw [lnA_size] at hj
  have := congrArg (·[j]?) (lns_at K i l h)
  simp only [List.getElem?_take, List.getElem?_drop, if_pos hj] at this
  rw [this]
  simpa using hv
theorem lns_one (K : List Ln) : ∀ u ∈ lns K, u.oneCell' = true := by
  intro u hu
  simp only [lns, List.mem_flatMap] at hu
  obtain ⟨b, _, hb⟩ := hu
  have := Array.all_eq_true_iff_forall_mem.1 (lnA_one b) u (by simpa using hb)
  exact this
theorem lns_set (K : List Ln) (i : Nat) (hi : i < K.length) (l : Ln) : (lns K).take (i * 7) ++ (lnA l).toList ++ (lns K).drop (i * 7 + 7) = lns (K.set i l) := by
  rw [List.set_eq_take_append_cons_drop, if_pos hi, lns_append, lns_cons, lns_take, show i * 7 + 7 = (i + 1) * 7 from by omega, lns_drop, List.append_assoc]
theorem ints_length (L : List Nat) : (ints L).length = L.length := by simp [ints]
theorem ints_append (L M : List Nat) : ints (L ++ M) = ints L ++ ints M := by simp [ints]
theorem ints_one (L : List Nat) : ∀ u ∈ ints L, u.oneCell' = true := by
  intro u hu
  simp [ints] at hu
  obtain ⟨_, _, rfl⟩ := hu
  rfl
theorem ints_get (L : List Nat) (i n : Nat) (h : L[i]? = some n) : (ints L)[i]? = some (.int .i64 (n : Int)) := by simp [ints, h]
theorem ints_set (L : List Nat) (i n : Nat) : (ints L).set i (.int .i64 (n : Int)) = ints (L.set i n) := by simp [ints, List.map_set]
theorem ints_take (L : List Nat) (i : Nat) : (ints L).take i = ints (L.take i) := by simp [ints, List.map_take]

/-- a slice that reads as what is learnt -/
def KsT (w : World) (v : Value) (K : List Ln) : Prop := ∃ A c, v = .slice A K.length c ∧ Tr w 0 58 A (lns K) ∧ (A = none → c = 0) ∧ K.length ≤ c ∧ c ≤ maxLen
/-- a slice that reads as ports -/
def IsT (w : World) (v : Value) (L : List Nat) : Prop := ∃ A c, v = .slice A L.length c ∧ Tr w 0 3 A (ints L) ∧ (A = none → c = 0) ∧ L.length ≤ c ∧ c ≤ maxLen
section
variable {w w' : World} {v : Value} {K : List Ln} {L : List Nat}
theorem KsT.nil : KsT w (.slice none 0 0) [] := ⟨none, 0, rfl, Tr.nil, fun _ => rfl, Nat.le_refl _, Nat.zero_le _⟩
theorem IsT.nil : IsT w (.slice none 0 0) [] := ⟨none, 0, rfl, Tr.nil, fun _ => rfl, Nat.le_refl _, Nat.zero_le _⟩
theorem KsT.below {B : Nat} (h : KsT w v K) (hb : Below B w w') (hB : w.heap.size ≤ B := by first | exact Nat.le_refl _ | simp) : KsT w' v K := by
  obtain ⟨A, c, e, h1, h2⟩ := h
  exact ⟨A, c, e, h1.below hb hB, h2⟩
theorem IsT.below {B : Nat} (h : IsT w v L) (hb : Below B w w') (hB : w.heap.size ≤ B := by first | exact Nat.le_refl _ | simp) : IsT w' v L := by
  obtain ⟨A, c, e, h1, h2⟩ := h
  exact ⟨A, c, e, h1.below hb hB, h2⟩
theorem KsT.alloc (h : KsT w v K) (o : Obj) : KsT (w.alloc o) v K := h.below ((Below.refl _ _).alloc (Nat.le_refl _) o)
theorem IsT.alloc (h : IsT w v L) (o : Obj) : IsT (w.alloc o) v L := h.below ((Below.refl _ _).alloc (Nat.le_refl _) o)
theorem KsT.setRow (h : KsT w v K) {g : Nat} {C : Array Value} {t : TypeId} {fr : Nat × Nat} (hg : w.heap[g]? = some (.cells C t fr)) (ht : t ≠ 58) (cs : Array Value) : KsT (w.setRow g cs) v K := by
  obtain ⟨A, c, e, h1, h2⟩ := h
  exact ⟨A, c, e, h1.setRow hg ht cs, h2⟩
theorem IsT.setRow (h : IsT w v L) {g : Nat} {C : Array Value} {t : TypeId} {fr : Nat × Nat} (hg : w.heap[g]? = some (.cells C t fr)) (ht : t ≠ 3) (cs : Array Value) : IsT (w.setRow g cs) v L := by
  obtain ⟨A, c, e, h1, h2⟩ := h
  exact ⟨A, c, e, h1.setRow hg ht cs, h2⟩
theorem KsT.keep (h : KsT w v K) (hk : ∀ (g : Nat) (C : Array Value), w.heap[g]? = some (.cells C 58 (0, 0)) → w'.heap[g]? = w.heap[g]?) : KsT w' v K := by
  obtain ⟨A, c, e, h1, h2⟩ := h
  exact ⟨A, c, e, h1.keep fun g C _ hg => hk g C hg, h2⟩
theorem IsT.keep (h : IsT w v L) (hk : ∀ (g : Nat) (C : Array Value), w.heap[g]? = some (.cells C 3 (0, 0)) → w'.heap[g]? = w.heap[g]?) : IsT w' v L := by
  obtain ⟨A, c, e, h1, h2⟩ := h
  exact ⟨A, c, e, h1.keep fun g C _ hg => hk g C hg, h2⟩
theorem KsT.one (h : KsT w v K) : v.oneCell' = true := by
  obtain ⟨A, c, rfl, _⟩ := h
  rfl
theorem IsT.one (h : IsT w v L) : v.oneCell' = true := by
  obtain ⟨A, c, rfl, _⟩ := h
  rfl
theorem KsT.own {base : Nat} (h : w.ownsRow base 58 7 v K.length (lns K)) : KsT w v K := by
  obtain ⟨A, c, rfl, h1, h2, h3⟩ := ownk_form h
  exact ⟨A, c, rfl, (Tr.own h).wide (Nat.zero_le _), h3, h1, h2⟩
theorem IsT.own {base : Nat} (h : w.ownsRow base 3 1 v L.length (ints L)) : IsT w v L := by
  obtain ⟨A, c, rfl, h1, h2, h3⟩ := ownk_form h
  exact ⟨A, c, rfl, (Tr.own h).wide (Nat.zero_le _), h3, h1, h2⟩
end
/-- a bridge's value (the code's and the document's have the same cells) -/
def BrT (w : World) (v : Value) (P : Nat) (K : List Ln) : Prop := ∃ s, v = .agg #[.int .i64 (P : Int), s] ∧ KsT w s K
theorem BrT.below {w w' : World} {v : Value} {P B : Nat} {K : List Ln} (h : BrT w v P K) (hb : Below B w w') (hB : w.heap.size ≤ B := by first | exact Nat.le_refl _ | simp) : BrT w' v P K := by
  obtain ⟨s, e, h1⟩ := h
  exact ⟨s, e, h1.below hb hB⟩

/-! ### whether two cards are one -/
theorem part_byte (xs : Array Value) (off : Nat) (v : Value) (h : xs[off]? = some v) (w : World) : (part 5 xs off).run Try.prog w = .ok v w := by
  have ha : (isAgg 5).run Try.prog w = .ok false w := by kernel_rfl
  unfold part
  simp [Sem.run_bind, ha, h]
theorem part_int (xs : Array Value) (off : Nat) (v : Value) (h : xs[off]? = some v) (w : World) : (part 3 xs off).run Try.prog w = .ok v w := by
  have ha : (isAgg 3).run Try.prog w = .ok false w := by kernel_rfl
  unfold part
  simp [Sem.run_bind, ha, h]
theorem part_mac (xs cs : Array Value) (off : Nat) (h : xs.extract off (off + 6) = cs) (w : World) : (part 46 xs off).run Try.prog w = .ok (.agg cs) w := by
  have ha : ∀ w, (isAgg 46).run Try.prog w = .ok true w := fun w => by kernel_rfl
  have hs : ∀ w, (Go.sizeOf 46).run Try.prog w = .ok 6 w := fun w => by kernel_rfl
  unfold part
  simp [Sem.run_bind, ha, hs, h]
theorem eq_byte (d : Nat) (x y : UInt8) (w : World) : (Op.equalIn (d + 1) 5 (.int .u8 (x.toNat : Int)) (.int .u8 (y.toNat : Int))).run Try.prog w = .ok (x == y) w := by
  rw [run_equalIn_int w d _ .u8 .u8 _ _ Try.underlying5]
  congr 1
  rw [Bool.eq_iff_iff, beq_iff_eq, beq_iff_eq]
  constructor
  · exact fun h => UInt8.toNat_inj.1 (Int.ofNat.inj h)
  · rintro rfl
    rfl
theorem eq_mac (d : Nat) (a b : Mac) (w : World) : (Op.equalIn (d + 2) 46 (.agg (macA a)) (.agg (macA b))).run Try.prog w = .ok (decide (a = b)) w := by
  obtain ⟨x0, x1, x2, x3, x4, x5⟩ := a
  obtain ⟨y0, y1, y2, y3, y4, y5⟩ := b
  have hs : ∀ w, (Go.sizeOf 5).run Try.prog w = .ok 1 w := fun w => by kernel_rfl
  have p0 : ∀ (x0 x1 x2 x3 x4 x5 : UInt8) (w : World), (part 5 (macA ⟨x0, x1, x2, x3, x4, x5⟩) 0).run Try.prog w = .ok (.int .u8 (x0.toNat : Int)) w := fun x0 x1 x2 x3 x4 x5 w => part_byte _ _ _ rfl w
  have p1 : ∀ (x0 x1 x2 x3 x4 x5 : UInt8) (w : World), (part 5 (macA ⟨x0, x1, x2, x3, x4, x5⟩) 1).run Try.prog w = .ok (.int .u8 (x1.toNat : Int)) w := fun x0 x1 x2 x3 x4 x5 w => part_byte _ _ _ rfl w
  have p2 : ∀ (x0 x1 x2 x3 x4 x5 : UInt8) (w : World), (part 5 (macA ⟨x0, x1, x2, x3, x4, x5⟩) 2).run Try.prog w = .ok (.int .u8 (x2.toNat : Int)) w := fun x0 x1 x2 x3 x4 x5 w => part_byte _ _ _ rfl w
  have p3 : ∀ (x0 x1 x2 x3 x4 x5 : UInt8) (w : World), (part 5 (macA ⟨x0, x1, x2, x3, x4, x5⟩) 3).run Try.prog w = .ok (.int .u8 (x3.toNat : Int)) w := fun x0 x1 x2 x3 x4 x5 w => part_byte _ _ _ rfl w
  have p4 : ∀ (x0 x1 x2 x3 x4 x5 : UInt8) (w : World), (part 5 (macA ⟨x0, x1, x2, x3, x4, x5⟩) 4).run Try.prog w = .ok (.int .u8 (x4.toNat : Int)) w := fun x0 x1 x2 x3 x4 x5 w => part_byte _ _ _ rfl w
  have p5 : ∀ (x0 x1 x2 x3 x4 x5 : UInt8) (w : World), (part 5 (macA ⟨x0, x1, x2, x3, x4, x5⟩) 5).run Try.prog w = .ok (.int .u8 (x5.toNat : Int)) w := fun x0 x1 x2 x3 x4 x5 w => part_byte _ _ _ rfl w
  rw [show d + 2 = (d + 1) + 1 from rfl, Op.equalIn]
  simp only [Sem.run_bind, run_underlying Try.underlying46, Result.andThen_ok, hs]
  simp only [Std.Legacy.Range.forIn_eq_forIn_range', Std.Legacy.Range.size]
  simp [List.range', p0, p1, p2, p3, p4, p5, eq_byte]
  by_cases h0 : x0 = y0
  all_goals try simp [h0]
  by_cases h1 : x1 = y1
  all_goals try simp [h1]
  by_cases h2 : x2 = y2
  all_goals try simp [h2]
  by_cases h3 : x3 = y3
  all_goals try simp [h3]
  by_cases h4 : x4 = y4
  all_goals try simp [h4]
  by_cases h5 : x5 = y5
  all_goals try simp [h5]
theorem ln_mac (l : Ln) : (lnA l).extract 0 (0 + 6) = macA l.m := by
  obtain ⟨⟨x0, x1, x2, x3, x4, x5⟩, p⟩ := l
  simp [lnA, macA]
theorem eq_ln (d : Nat) (a b : Ln) (w : World) : (Op.equalIn (d + 3) 58 (.agg (lnA a)) (.agg (lnA b))).run Try.prog w = .ok (decide (a = b)) w := by
  have hfs : Try.prog.underlying 58 = some (.struct (Try.prog.fieldsOf 58)) := by
    simp only [Program.fieldsOf, Try.underlying58]
  rw [run_equalIn_struct w (d + 2) _ _ _ hfs (by kernel_rfl)]
  simp only [Program.fieldsOf, Try.underlying58]
  obtain ⟨m, p⟩ := a
  obtain ⟨m', p'⟩ := b
  have r0 := eq_mac d m m'
  have r1 : ∀ w, (Op.equalIn (d + 2) 3 (.int .i64 (p : Int)) (.int .i64 (p' : Int))).run Try.prog w = .ok (decide (p = p')) w := fun w => by
    rw [run_equalIn_int w (d + 1) _ .i64 .i64 _ _ Try.underlying3]
    congr 1
    rw [Bool.eq_iff_iff, beq_iff_eq, decide_eq_true_iff]
    omega
  have pa0 := part_mac (lnA ⟨m, p⟩) (macA m) 0 (ln_mac _)
  have pb0 := part_mac (lnA ⟨m', p'⟩) (macA m') 0 (ln_mac _)
  have pa1 := part_int (lnA ⟨m, p⟩) 6 _ (lnA_port _)
  have pb1 := part_int (lnA ⟨m', p'⟩) 6 _ (lnA_port _)
  by_cases hm : m = m'
  · by_cases hp : p = p'
    · have e0 : decide (m = m') = true := decide_eq_true hm
      have e1 : decide (p = p') = true := decide_eq_true hp
      rw [e0] at r0
      rw [e1] at r1
      simp [Op.eqFields, pa0, pb0, pa1, pb1, r0, r1]
      exact ⟨hm, hp⟩
    · have e0 : decide (m = m') = true := decide_eq_true hm
      have e1 : decide (p = p') = false := decide_eq_false hp
      rw [e0] at r0
      rw [e1] at r1
      simp [Op.eqFields, pa0, pb0, pa1, pb1, r0, r1]
      exact fun _ => hp
  · have e0 : decide (m = m') = false := decide_eq_false hm
    rw [e0] at r0
    simp [Op.eqFields, pa0, pb0, r0]
    exact fun h => absurd h hm

/-! ### loads and stores -/
section
variable {P : Program}
theorem wpList_load_atA {w : World} {ops : Array Oper} {rest : List Oper} {op : Oper} {a : Act} {Q : Exit → Act → World → Prop} (hgd : op.guard = none) (ty : TypeId) (x : Operand) (ho : op.op = .load ty x)
    (ad : Addr) (hx : a.eval x = .pointer (some ad)) (C : Array Value) (d : TypeDesc) (hc : ∀ (j : Nat) v, C[j]? = some v → w.cell? (ad.add j) = some v)
    (hu : P.underlying ty = some d) (hd : d.isRow = true) (hi : (P.info? ty).map (·.size) = some C.size)
    (h : wpList P ops Q rest (a.put op.dst (.agg C)) w) : wpList P ops Q (op :: rest) a w := by
  have := wpList_load_at (P := P) (ops := ops) (rest := rest) (op := op) (a := a) (w := w) (Q := Q) hgd ty x ho ad hx C.toList d (fun j v hv => hc j v (by simpa using hv)) hu hd (by rw [hi, Array.length_toList])
  rw [Array.toArray_toList] at this
  exact this h
/-- a whole struct laid into an element of a row -/
theorem run_storeVar_elem (w : World) (g o : Nat) (ty : TypeId) (cur C : Array Value) (t : TypeId) (hg : w.heap[g]? = some (.cells cur t (0, 0))) (ho : o + C.size ≤ cur.size) (hi : (P.info? ty).map (·.size) = some C.size) (h1 : C.all (·.oneCell') = true) :
    (storeVar ty ⟨g, o, none⟩ (.agg C)).run P w = .ok () (w.setRow g (cur.toList.take o ++ C.toList ++ cur.toList.drop (o + C.size)).toArray) := by
  have this := run_storeCells_at (P := P) g o t C.toList 0 cur w hg (by rw [Array.length_toList]; omega) (fun v hv => Array.all_eq_true_iff_forall_mem.1 h1 v (by simpa using hv))
  rw [Nat.add_zero, Array.length_toList] at this
  cases hq : P.info? ty with
  | none => simp [hq] at hi
  | some i =>
    have hs : C.size = i.size := by simp [hq] at hi; omega
    simp [storeVar, sizeOf, typeInfo, hq, Value.cells, hs, this]
theorem wpList_store_elem {w : World} {ops : Array Oper} {rest : List Oper} {op : Oper} {a : Act} {Q : Exit → Act → World → Prop} (hgd : op.guard = none) (ty : TypeId) (x y : Operand) (ho : op.op = .store ty x y)
    (g o : Nat) (C : Array Value) (hx : a.eval x = .pointer (some ⟨g, o, none⟩)) (hy : a.eval y = .agg C) (cur : Array Value) (t : TypeId) (hg : w.heap[g]? = some (.cells cur t (0, 0))) (hsz : o + C.size ≤ cur.size)
    (hi : (P.info? ty).map (·.size) = some C.size) (h1 : C.all (·.oneCell') = true)
    (cur2 : Array Value) (hcur2 : (cur.toList.take o ++ C.toList ++ cur.toList.drop (o + C.size)).toArray = cur2)
    (h : wpList P ops Q rest (a.put op.dst undef) (w.setRow g cur2)) : wpList P ops Q (op :: rest) a w := by
  subst hcur2
  refine wpList_plain hgd fun K hK => ?_
  unfold Oper.wp execOp
  simp only [ho, hx, hy, Instr.storeAt, Instr.sureAddr, Sem.run_bind, Sem.run_pure, Result.andThen_ok, run_storeVar_elem w g o ty cur C t hg hsz hi h1]
  exact hK _ _ h
end
/-- an element of a row of the call's own is turned -/
theorem own_put7 {w : World} {base g n c p : Nat} {K : List Ln} (h : w.ownsRow base 58 7 (.slice (some ⟨g, 0, none⟩) n c) n (lns K)) (hp : p < n) (l : Ln) :
    ∃ cur cur2 : Array Value, w.heap[g]? = some (.cells cur 58 (0, 0)) ∧ p * 7 + 7 ≤ cur.size ∧ (cur.toList.take (p * 7) ++ (lnA l).toList ++ cur.toList.drop (p * 7 + (lnA l).size)).toArray = cur2 ∧
      (w.setRow g cur2).ownsRow base 58 7 (.slice (some ⟨g, 0, none⟩) n c) n (lns (K.set p l)) := by
  obtain ⟨cur, hg, h1, h3, h4, h5, h6⟩ := own_at0 h (by omega)
  have hl := h.1
  rw [lns_length] at hl
  have hn : K.length = n := by omega
  refine ⟨cur, _, hg, by omega, rfl, by rw [lns_length, List.length_set, hn], .inr ⟨g, c, _, rfl, h1, setRow_heap _ _ _ _ _ _ hg, h3, h4, ?_, ?_⟩⟩
  · rw [List.size_toArray, List.length_append, List.length_append, List.length_take, List.length_drop, Array.length_toList, Array.length_toList, lnA_size]
    omega
  · show (cur.toList.take (p * 7) ++ (lnA l).toList ++ cur.toList.drop (p * 7 + 7)).take (n * 7) = _
    rw [← lns_set K p (by omega) l, ← h6, List.take_take, Nat.min_eq_left (by omega), List.take_append, List.take_of_length_le (by rw [List.length_append, List.length_take, Array.length_toList, Array.length_toList, lnA_size]; omega), List.drop_take]
    congr 2
    rw [List.length_append, List.length_take, Array.length_toList, Array.length_toList, lnA_size, Nat.min_eq_left (by omega)]
end Go.Proofs.Ytecbelnmdimnkaa
