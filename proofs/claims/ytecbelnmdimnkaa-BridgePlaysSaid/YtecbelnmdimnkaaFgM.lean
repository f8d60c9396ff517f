/-
  BridgeForgets's words: the cards that were seen, two maps by a byte. No program's walk, no condition.
-/
import Derived.Test.YtecbelnmdimnkaaKnM
import Derived.Maps.OwnOps
import Derived.Maps.OwnSet
namespace Go.Proofs.Ytecbelnmdimnkaa
open Go.RowKit Go.Maps

def mc (c : UInt8) : Mac := ⟨2, c, 0, 0, 0, 0⟩
theorem mc_inj {c d : UInt8} (h : mc c = mc d) : c = d := congrArg Mac.x1 h
theorem mc_even (c : UInt8) : ¬ (mc c).x0.toNat % 2 = 1 := by show ¬ (2 : UInt8).toNat % 2 = 1; decide
/-- the i-th card's port -/
def ptOf (E : List UInt8) (i : Nat) : Nat := if h : i < E.length then E[i].toNat % 8 else 0
theorem ptOf_lt (E : List UInt8) (i : Nat) : ptOf E i < 8 := by
  unfold ptOf
  split
  · exact Nat.mod_lt _ (by decide)
  · decide
/-- the first k that were seen -/
def seenS (D E : List UInt8) (k : Nat) : List Ln := (D.take k).mapIdx fun i c => ⟨mc c, ptOf E i⟩
theorem seenS_zero (D E : List UInt8) : seenS D E 0 = [] := rfl
theorem seenS_succ (D E : List UInt8) (k : Nat) (x : UInt8) (h : D[k]? = some x) : seenS D E (k + 1) = seenS D E k ++ [⟨mc x, ptOf E k⟩] := by
  have hk := (List.getElem?_eq_some_iff.1 h).1
  unfold seenS
  rw [List.take_succ_eq_append_getElem hk, List.mapIdx_append, (List.getElem?_eq_some_iff.1 h).2]
  simp [List.length_take, Nat.min_eq_left (Nat.le_of_lt hk)]
theorem seenS_len (D E : List UInt8) (k : Nat) (h : k ≤ D.length) : (seenS D E k).length = k := by
  simp [seenS, Nat.min_eq_left h]
theorem seenS_mac {D E : List UInt8} {k : Nat} {l : Ln} (h : l ∈ seenS D E k) : l.m = mc l.m.x1 := by
  unfold seenS at h
  obtain ⟨i, hi, rfl⟩ := List.mem_mapIdx.1 h
  rfl
/-- what is seen from the end: the j-th from there -/
theorem seenS_back (D E : List UInt8) (j i : Nat) (x : UInt8) (hx : D[i]? = some x) (h : i + (j + 1) = D.length) :
    (seenS D E D.length).reverse = (seenS D E D.length).reverse.take j ++ ⟨mc x, ptOf E i⟩ :: (seenS D E D.length).reverse.drop (j + 1) := by
  have hl := seenS_len D E D.length (Nat.le_refl _)
  have hi : i < D.length := by omega
  have hat : (seenS D E D.length).reverse[j]? = some ⟨mc x, ptOf E i⟩ := by
    rw [List.getElem?_reverse (by omega), hl, show D.length - 1 - j = i from by omega]
    unfold seenS
    rw [List.take_of_length_le (Nat.le_refl _), List.getElem?_mapIdx, hx]
    rfl
  have hj := (List.getElem?_eq_some_iff.1 hat).1
  conv => lhs; rw [← List.take_append_drop j (seenS D E D.length).reverse, List.drop_eq_getElem_cons hj, (List.getElem?_eq_some_iff.1 hat).2]
theorem rev_take_succ (D E : List UInt8) (j i : Nat) (x : UInt8) (hx : D[i]? = some x) (h : i + (j + 1) = D.length) :
    (seenS D E D.length).reverse.take (j + 1) = (seenS D E D.length).reverse.take j ++ [⟨mc x, ptOf E i⟩] := by
  have hl := seenS_len D E D.length (Nat.le_refl _)
  have hat : (seenS D E D.length).reverse[j]? = some ⟨mc x, ptOf E i⟩ := by
    rw [List.getElem?_reverse (by omega), hl, show D.length - 1 - j = i from by omega]
    unfold seenS
    rw [List.take_of_length_le (Nat.le_refl _), List.getElem?_mapIdx, hx]
    rfl
  have hj := (List.getElem?_eq_some_iff.1 hat).1
  rw [List.take_succ_eq_append_getElem hj, (List.getElem?_eq_some_iff.1 hat).2]
theorem fw_mc {P q : Nat} (K : List Ln) (c : UInt8) (h : q < P) : ∃ L, fwX P K (q : Int) (frB c44 (mc c)) = (seeP K (mc c) q, L, 0) := by
  have := fw_frB K c44 (mc c) h
  rw [if_neg (mc_even c)] at this
  exact ⟨_, this⟩

abbrev KB (c : UInt8) : Lit := .int .u8 (c.toNat : Int)
theorem kb_inj {c d : UInt8} (h : KB c = KB d) : c = d := by
  injection h with _ h
  exact UInt8.toNat_inj.1 (by omega)
theorem kb_key (c : UInt8) : WideAt.IsKeyLit (KB c) := by
  first | trivial | (simp [WideAt.IsKeyLit])
theorem kb_wf (c : UInt8) : (KB c).wf = true := by
  have := c.toNat_lt
  simp [Lit.wf, IntKind.min, IntKind.max, IntKind.signed, IntKind.bits]
  omega
theorem int_wf {a : Nat} (h : a < 100000) : (Lit.int .i64 (a : Int)).wf = true := by
  simp [Lit.wf, IntKind.min, IntKind.max, IntKind.signed, IntKind.bits]
  omega
theorem bytelaw : Keyed Try.prog 5 := int_keyed Try.underlying5
theorem key_byte (c : UInt8) : keyOf Try.prog 5 (.int .u8 (c.toNat : Int)) = some (KB c) := keyOf_int_mk Try.underlying5 (kb_wf c)
theorem zero_int (w : World) : (zeroValue 3).run Try.prog w = .ok (.int .i64 0) w := by kernel_rfl
theorem zero_bit (w : World) : (zeroValue 4).run Try.prog w = .ok (.bool false) w := by kernel_rfl
/-- maps of the call's own by a byte: of ints, of truths -/
abbrev OwnI (M n : Nat) (D : DataW Unit) (w : World) : Prop := w.ownsMap Try.prog 5 (plainElem Try.prog 3) M n D
abbrev OwnT (M n : Nat) (D : DataW Unit) (w : World) : Prop := w.ownsMap Try.prog 5 (plainElem Try.prog 4) M n D
section
variable {R : Value → Option (DataW Unit × List MemPlace)} {k : TypeId} {M n : Nat} {D : DataW Unit} {w w' : World}
theorem ownm_of (h : w.ownsMap Try.prog k R M n D) (hh : w'.heap[M]? = w.heap[M]?) : w'.ownsMap Try.prog k R M n D := by
  obtain ⟨es, clock, h1, h2⟩ := h
  exact ⟨es, clock, hh.trans h1, h2⟩
theorem ownm_below {b : Nat} (h : w.ownsMap Try.prog k R M n D) (hb : Below b w w') (hB : w.heap.size ≤ b := by first | exact Nat.le_refl _ | simp) : w'.ownsMap Try.prog k R M n D := ownm_of h (hb.block M (Nat.lt_of_lt_of_le (World.ownsMap.lt h) hB))
theorem ownm_cells (h : w.ownsMap Try.prog k R M n D) : ∀ C t fr, w.heap[M]? ≠ some (.cells C t fr) := by
  obtain ⟨es, clock, h1, _⟩ := h
  intro C t fr e
  rw [h1] at e
  cases e
theorem ownm_set {N : Nat} {C : Array Value} {t : TypeId} {fr : Nat × Nat} (h : w.ownsMap Try.prog k R M n D) (hN : w.heap[N]? = some (.cells C t fr)) (cs : Array Value) : w'.heap = (w.setRow N cs).heap → w'.ownsMap Try.prog k R M n D := fun e =>
  ownm_of h (by rw [e]; exact setRow_other w N M cs fun e => ownm_cells h C t fr (by rw [e]; exact hN))
theorem ownm_grown {row : Option Nat} (h : w.ownsMap Try.prog k R M n D) (hg : w.grownBy w' row) (hr : row ≠ some M) : w'.ownsMap Try.prog k R M n D := ownm_of h (hg.block M (World.ownsMap.lt h) fun e => hr e.symm)
end
theorem plainElem_bool_inv {v : Value} {b : Bool} {ps : List MemPlace} (h : plainElem (H := Unit) Try.prog 4 v = some (.lit (.bool b), ps)) : v = .bool b := by
  unfold plainElem at h
  rw [Try.underlying4] at h
  cases v <;> simp at h
  rw [h.1]
/-- the ports that were noted: of each card the last -/
def NotedI (S : List Ln) (D : DataW Unit) : Prop := ∀ l ∈ ddf S.reverse, ∀ zd, D.atKey (KB l.m.x1) zd = .lit (.int .i64 (l.p : Int))
theorem noted_start : NotedI [] (.map [] : DataW Unit) := fun l h => (by cases h)
theorem NotedI.put {S : List Ln} {D : DataW Unit} (h : NotedI S D) (hD : IsMap D) (hS : ∀ l ∈ S, l.m = mc l.m.x1) (x : UInt8) (p : Nat) : NotedI (S ++ [⟨mc x, p⟩]) (D.put (KB x) (.lit (.int .i64 (p : Int)))) := by
  intro l hl zd
  rw [List.reverse_append] at hl
  rcases List.mem_cons.1 hl with rfl | hl
  · exact atKey_put_same hD (kb_key _) _ _
  · obtain ⟨h1, h2⟩ := List.mem_filter.1 hl
    have hne := (notM_iff _ _).1 h2
    have hm := hS l (List.mem_reverse.1 (ddf_mem h1))
    rw [atKey_put_other fun e => hne (by rw [hm, kb_inj e])]
    exact h l h1 zd
/-- the cards that were asked -/
structure AskedT (A : List Ln) (D : DataW Unit) : Prop where
  tidy : Tidy D
  has_ : ∀ c : UInt8, has D (KB c) = true ↔ ∃ y ∈ A, y.m = mc c
  val : ∀ c : UInt8, has D (KB c) = true → ∀ zd, D.atKey (KB c) zd = .lit (.bool true)
  size_ : Maps.size D = (ddf A).length
theorem asked_start : AskedT [] (.map [] : DataW Unit) := ⟨tidy_empty, fun c => ⟨fun h => (by cases h), fun ⟨_, h, _⟩ => (by cases h)⟩, fun c h => (by cases h), rfl⟩
theorem AskedT.put {A : List Ln} {D : DataW Unit} (h : AskedT A D) {x : UInt8} (hx : ∀ y ∈ A, y.m ≠ mc x) (p : Nat) : AskedT (A ++ [⟨mc x, p⟩]) (D.put (KB x) (.lit (.bool true))) := by
  have hn : has D (KB x) = false := by
    cases hq : has D (KB x) with
    | false => rfl
    | true =>
      obtain ⟨y, hy, e⟩ := (h.has_ x).1 hq
      exact absurd e (hx y hy)
  refine ⟨h.tidy.put (kb_key x) _, fun c => ?_, fun c hc zd => ?_, ?_⟩
  · by_cases e : c = x
    · subst e
      exact ⟨fun _ => ⟨_, List.mem_append_right _ (List.mem_singleton.2 rfl), rfl⟩, fun _ => has_put_same h.tidy.isMap (kb_key c) _⟩
    · rw [has_put_other fun e2 => e (kb_inj e2), h.has_ c]
      constructor
      · rintro ⟨y, hy, e2⟩
        exact ⟨y, List.mem_append_left _ hy, e2⟩
      · rintro ⟨y, hy, e2⟩
        rcases List.mem_append.1 hy with hy | hy
        · exact ⟨y, hy, e2⟩
        · rw [List.mem_singleton] at hy
          subst hy
          exact absurd (mc_inj e2).symm e
  · by_cases e : c = x
    · subst e
      exact atKey_put_same h.tidy.isMap (kb_key c) _ _
    · rw [has_put_other fun e2 => e (kb_inj e2)] at hc
      rw [atKey_put_other fun e2 => e (kb_inj e2)]
      exact h.val c hc zd
  · rw [size_put h.tidy, if_neg (by simp [hn]), h.size_, ddf_snoc hx, List.length_append]
    rfl
theorem AskedT.old {A : List Ln} {D : DataW Unit} (h : AskedT A D) {x : UInt8} (hx : ∃ y ∈ A, y.m = mc x) (p : Nat) : AskedT (A ++ [⟨mc x, p⟩]) D := by
  refine ⟨h.tidy, fun c => ?_, h.val, ?_⟩
  · rw [h.has_ c]
    constructor
    · rintro ⟨y, hy, e2⟩
      exact ⟨y, List.mem_append_left _ hy, e2⟩
    · rintro ⟨y, hy, e2⟩
      rcases List.mem_append.1 hy with hy | hy
      · exact ⟨y, hy, e2⟩
      · rw [List.mem_singleton] at hy
        subst hy
        obtain ⟨z, hz, e⟩ := hx
        exact ⟨z, hz, e.trans e2⟩
  · rw [h.size_, ddf_old (x := ⟨mc x, p⟩) hx]
end Go.Proofs.Ytecbelnmdimnkaa
