/-
  HeapBlocks: which key holds which block. No program's walk, no condition.
-/
import Derived.Test.YtagajijjcjfopaaMathH
import Derived.Test.YtagajijjcjfopaaVarL
import Derived.Maps.OwnOps
import Derived.Maps.RangeWalk
namespace Go.Proofs.Ytagajijjcjfopaa
open Go.RowKit Go.Maps

theorem blk_mid {T f : Nat} {X Y : List Bk} {c : Bk} (h : Blk T f (X ++ c :: Y)) : (∀ b ∈ X, b.1 + b.2 ≤ c.1) ∧ (∀ b ∈ Y, c.1 + c.2 ≤ b.1) ∧ 8 ≤ c.2 ∧ c.1 + c.2 ≤ T := by
  induction X generalizing f with
  | nil =>
    obtain ⟨_, _, h3, _, h5, h6⟩ := h
    exact ⟨fun b hb => by simp at hb, fun b hb => (blk_bound h6 b hb).1, h3, h5⟩
  | cons x X ih =>
    obtain ⟨_, _, _, _, _, h6⟩ := h
    obtain ⟨g1, g2, g3, g4⟩ := ih h6
    refine ⟨fun b hb => ?_, g2, g3, g4⟩
    rcases List.mem_cons.1 hb with rfl | hb
    · exact (blk_bound h6 c (by simp)).1
    · exact g1 b hb
/-- two blocks of a heap that begin at different places share no byte -/
theorem blk_apart {T f : Nat} {L : List Bk} (h : Blk T f L) {b c : Bk} (hb : b ∈ L) (hc : c ∈ L) (hne : b.1 ≠ c.1) : b.1 + b.2 ≤ c.1 ∨ c.1 + c.2 ≤ b.1 := by
  obtain ⟨X, Y, rfl⟩ := List.append_of_mem hc
  obtain ⟨g1, g2, _, _⟩ := blk_mid h
  rcases List.mem_append.1 hb with hb | hb
  · exact .inl (g1 b hb)
  · rcases List.mem_cons.1 hb with rfl | hb
    · exact absurd rfl hne
    · exact .inr (g2 b hb)
theorem blk_uniq {T f : Nat} {L : List Bk} (h : Blk T f L) {b c : Bk} (hb : b ∈ L) (hc : c ∈ L) (he : b.1 = c.1) : b = c := by
  obtain ⟨X, Y, rfl⟩ := List.append_of_mem hc
  obtain ⟨g1, g2, g3, _⟩ := blk_mid h
  have h8 := (blk_bound h b hb).2.1
  rcases List.mem_append.1 hb with hb | hb
  · have := g1 b hb
    omega
  · rcases List.mem_cons.1 hb with rfl | hb
    · rfl
    · have := g2 b hb
      omega
theorem putB_at {B l : List UInt8} {a : Nat} (h : a + l.length ≤ B.length) (i : Nat) (hi : i < a ∨ a + l.length ≤ i) : (putB B a l)[i]? = B[i]? := by
  unfold putB
  have ht : (B.take a).length = a := by rw [List.length_take]; omega
  rw [List.append_assoc]
  rcases hi with h1 | h1
  · rw [List.getElem?_append_left (by omega), List.getElem?_take, if_pos h1]
  · rw [List.getElem?_append_right (by omega), List.getElem?_append_right (by omega), List.getElem?_drop]
    congr 1
    omega
theorem putB_one {B : List UInt8} {a : Nat} {x : UInt8} (h : a + 1 ≤ B.length) : (putB B a [x])[a]? = some x := by
  unfold putB
  have ht : (B.take a).length = a := by rw [List.length_take]; omega
  rw [List.append_assoc, List.getElem?_append_right (by omega), ht, Nat.sub_self]
  rfl
abbrev byteK (k : Nat) : UInt8 := UInt8.ofNat (k + 1)
theorem byteK_inj {j k : Nat} (hj : j < 30) (hk : k < 30) (h : byteK j = byteK k) : j = k := by
  have := congrArg UInt8.toNat h
  simp [byteK] at this
  omega

abbrev KL (k : Nat) : Lit := .int .i64 (k : Int)
theorem kl_inj {j k : Nat} (h : KL j = KL k) : j = k := by
  injection h with _ h
  omega
theorem kl_key {k : Nat} (h : k < 30) : WideAt.IsKeyLit (KL k) := by
  first | trivial | (simp [WideAt.IsKeyLit])
/-- key k is one of those that 'left' tells; its block begins at a and holds its byte first -/
structure Keys (B : List UInt8) (L : List Bk) (D : DataW Unit) (left : Lit → Bool) (i : Nat) : Prop where
  at_ : ∀ kl, left kl = true → ∃ k a len : Nat, kl = KL k ∧ k < i ∧ (∀ zd, D.atKey kl zd = .lit (.int .i64 (a : Int))) ∧ (a, len) ∈ L ∧ B[a]? = some (byteK k)
  all : ∀ b ∈ L, ∃ k : Nat, k < i ∧ left (KL k) = true ∧ ∀ zd, D.atKey (KL k) zd = .lit (.int .i64 (b.1 : Int))
theorem keys_start (B : List UInt8) : Keys B [] (.map [] : DataW Unit) (has (.map [] : DataW Unit)) 0 := ⟨fun kl h => (by cases h), fun b h => (by cases h)⟩
theorem Keys.mono {B : List UInt8} {L : List Bk} {D : DataW Unit} {left : Lit → Bool} {i j : Nat} (h : Keys B L D left i) (hij : i ≤ j) : Keys B L D left j := by
  refine ⟨fun kl hk => ?_, fun b hb => ?_⟩
  · obtain ⟨k, a, len, e, hki, r⟩ := h.at_ kl hk
    exact ⟨k, a, len, e, by omega, r⟩
  · obtain ⟨k, hki, r⟩ := h.all b hb
    exact ⟨k, by omega, r⟩
/-- Alloc, Store, at[i] = a -/
theorem Keys.add {B : List UInt8} {L L' : List Bk} {D : DataW Unit} {i a len : Nat} (h : Keys B L D (has D) i) (hD : IsMap D) (hm : ∀ b, b ∈ L' ↔ b ∈ L ∨ b = (a, len)) (hne : ∀ b ∈ L, b.1 ≠ a) (ha : a + 1 ≤ B.length) (hi : i < 30) :
    Keys (putB B a [byteK i]) L' (D.put (KL i) (.lit (.int .i64 (a : Int)))) (has (D.put (KL i) (.lit (.int .i64 (a : Int))))) (i + 1) := by
  refine ⟨fun kl hk => ?_, fun b hb => ?_⟩
  · by_cases e : kl = KL i
    · subst e
      exact ⟨i, a, len, rfl, by omega, fun zd => atKey_put_same hD (kl_key hi) _ _, (hm _).2 (.inr rfl), putB_one ha⟩
    · rw [has_put_other e] at hk
      obtain ⟨k, a2, l2, e2, hki, hat, hL, hB⟩ := h.at_ kl hk
      have hn := hne _ hL
      refine ⟨k, a2, l2, e2, by omega, fun zd => by rw [atKey_put_other e, hat], (hm _).2 (.inl hL), ?_⟩
      rw [putB_at (by simpa using ha) a2 (by simp only [List.length_cons, List.length_nil]; simp only at hn; omega)]
      exact hB
  · rcases (hm b).1 hb with hb | rfl
    · obtain ⟨k, hki, hl, hat⟩ := h.all b hb
      have e : KL k ≠ KL i := fun e => by have := kl_inj e; omega
      exact ⟨k, by omega, by rw [has_put_other e]; exact hl, fun zd => by rw [atKey_put_other e, hat]⟩
    · exact ⟨i, by omega, has_put_same hD (kl_key hi) _, fun zd => atKey_put_same hD (kl_key hi) _ _⟩
/-- a block that is given away is a new one -/
theorem alloc_new {B : List UInt8} {L L' : List Bk} {D : List Bool} {n : Int} {a : Nat} (hR : RightH B L D) (h : allocO B.length L n = (L', a, 0)) : ∃ len, (∀ b, b ∈ L' ↔ b ∈ L ∨ b = (a, len)) ∧ (∀ b ∈ L, b.1 ≠ a) ∧ 8 ≤ len ∧ a + len ≤ B.length := by
  have hR2 := hR.alloc n
  rw [h] at hR2
  unfold allocO at h
  split at h
  · simp at h
  · split at h
    · simp at h
    · split at h
      · simp at h
      · rename_i a2 i ho
        simp only [Prod.mk.injEq] at h
        obtain ⟨rfl, rfl, -⟩ := h
        obtain ⟨g1, g2, g3, g4⟩ := blk_mid hR2.blk
        refine ⟨_, fun b => ?_, fun b hb => ?_, g3, g4⟩
        · rw [List.mem_append, List.mem_cons]
          constructor
          · rintro (hb | hb | hb)
            · exact .inl (List.mem_of_mem_take hb)
            · exact .inr hb
            · exact .inl (List.mem_of_mem_drop hb)
          · rintro (hb | hb)
            · rw [← List.take_append_drop i L] at hb
              rcases List.mem_append.1 hb with hb | hb
              · exact .inl hb
              · exact .inr (.inr hb)
            · exact .inr (.inl hb)
        · have h8 := (blk_bound hR.blk b hb).2.1
          rw [← List.take_append_drop i L] at hb
          simp only at g1 g2 g3
          rcases List.mem_append.1 hb with hb | hb
          · have := g1 b hb
            omega
          · have := g2 b hb
            omega
theorem given_one {L : List Bk} {a len : Nat} (h : (a, len) ∈ L) (h8 : 1 ≤ len) : givenB L (a : Int) 1 = true := by
  unfold givenB
  refine List.any_eq_true.2 ⟨_, h, ?_⟩
  unfold inB
  simp only [decide_eq_true_eq]
  omega
theorem store_one {B : List UInt8} {L : List Bk} {D : List Bool} {a len : Nat} (h : (a, len) ∈ L) (h8 : 1 ≤ len) (x : UInt8) : storeO B L D (a : Int) [x] = (putB B a [x], markD D a 1, 0) := by
  unfold storeO
  rw [if_pos (by exact given_one h h8)]
  rfl
theorem load_one {B : List UInt8} {L : List Bk} {a len : Nat} (h : (a, len) ∈ L) (h8 : 1 ≤ len) {x : UInt8} (hx : B[a]? = some x) : loadO B L (a : Int) 1 = ([x], 0) := by
  unfold loadO
  rw [if_neg (by decide), if_pos (given_one h h8)]
  have : (B.drop ((a : Int)).toNat).take (1 : Int).toNat = [x] := by
    rw [Int.toNat_natCast]
    show (B.drop a).take 1 = [x]
    rw [List.drop_eq_getElem?_toList_append, hx]
    rfl
  rw [this]
/-- Free: the others' bytes stand -/
theorem Keys.free {B : List UInt8} {L : List Bk} {E : List Bool} {D D' : DataW Unit} {left left' : Lit → Bool} {i k : Nat} (h : Keys B L D left i) (hR : RightH B L E) (hi : i ≤ 30) (hk : left (KL k) = true)
    (h1 : ∀ kl, left' kl = true → left kl = true ∧ kl ≠ KL k) (h2 : ∀ kl, left kl = true → kl ≠ KL k → left' kl = true) (h3 : ∀ kl zd, kl ≠ KL k → D'.atKey kl zd = D.atKey kl zd) :
    ∃ (a : Nat) (B' : List UInt8) (L' : List Bk) (E' : List Bool), (∀ zd, D.atKey (KL k) zd = .lit (.int .i64 (a : Int))) ∧ a < 5000 ∧ freeO B L E (a : Int) = (B', L', E', 0) ∧ RightH B' L' E' ∧ E'.length = E.length ∧ Keys B' L' D' left' i := by
  obtain ⟨k', a, len, e, hki, hat, hL, hB⟩ := h.at_ _ hk
  have := kl_inj e
  subst this
  obtain ⟨j, hj⟩ : ∃ j, L.findIdx? (atB (a : Int)) = some j := by
    cases hf : L.findIdx? (atB (a : Int)) with
    | some j => exact ⟨j, rfl⟩
    | none =>
      have := List.findIdx?_eq_none_iff.1 hf _ hL
      simp [atB] at this
  obtain ⟨hjl, hja, -⟩ := List.findIdx?_eq_some_iff_getElem.1 hj
  have hja2 : L[j].1 = a := by
    unfold atB at hja
    simp only [decide_eq_true_eq] at hja
    omega
  have hjb : L[j] = (a, len) := blk_uniq hR.blk (List.getElem_mem hjl) hL hja2
  have hbd := blk_bound hR.blk _ hL
  have hlen := hR.len
  have hmost := hR.most
  have hmem : ∀ b, b ∈ L.eraseIdx j ↔ b ∈ L ∧ b.1 ≠ a := fun b => by
    have hsp : L = L.take j ++ (a, len) :: L.drop (j + 1) := by
      rw [← hjb, ← List.drop_eq_getElem_cons hjl, List.take_append_drop]
    have hbk := hR.blk
    rw [hsp] at hbk
    obtain ⟨g1, g2, g3, _⟩ := blk_mid hbk
    rw [List.eraseIdx_eq_take_drop_succ]
    constructor
    · intro hb
      rcases List.mem_append.1 hb with hb | hb
      · have := g1 b hb
        have h8 := (blk_bound hR.blk b (List.mem_of_mem_take hb)).2.1
        exact ⟨List.mem_of_mem_take hb, by simp only at this; omega⟩
      · have := g2 b hb
        exact ⟨List.mem_of_mem_drop hb, by simp only at this g3; omega⟩
    · rintro ⟨hb, hne⟩
      rw [hsp] at hb
      rcases List.mem_append.1 hb with hb | hb
      · exact List.mem_append_left _ hb
      · rcases List.mem_cons.1 hb with rfl | hb
        · exact absurd rfl hne
        · exact List.mem_append_right _ hb
  have hfo : freeO B L E (a : Int) = (putB B a (List.replicate len 0), L.eraseIdx j, markD E a len, 0) := by
    unfold freeO
    simp only [hj, List.getElem?_eq_getElem hjl, hjb]
  have hR2 := hR.free (a : Int)
  rw [hfo] at hR2
  refine ⟨a, putB B a (List.replicate len 0), L.eraseIdx j, markD E a len, hat, by simp only at hbd; omega, hfo, hR2, markD_length _ _ _, ?_, ?_⟩
  · intro kl hl
    obtain ⟨hl, hne⟩ := h1 kl hl
    obtain ⟨k2, a2, l2, e2, hk2, hat2, hL2, hB2⟩ := h.at_ kl hl
    have hna : a2 ≠ a := fun ea => by
      subst ea
      rw [hB] at hB2
      injection hB2 with hB2
      have := byteK_inj (by omega) (by omega) hB2
      subst this
      exact hne e2
    refine ⟨k2, a2, l2, e2, hk2, fun zd => by rw [h3 kl zd hne, hat2], (hmem _).2 ⟨hL2, hna⟩, ?_⟩
    have hap := blk_apart hR.blk hL2 hL hna
    have h8 := (blk_bound hR.blk _ hL2).2.1
    simp only at hap h8 hbd
    rw [putB_at (by rw [List.length_replicate]; omega) a2 (by rw [List.length_replicate]; omega)]
    exact hB2
  · intro b hb
    obtain ⟨hb, hne⟩ := (hmem b).1 hb
    obtain ⟨k2, hk2, hl2, hat2⟩ := h.all b hb
    have hkk : KL k2 ≠ KL k := fun e => by
      have e1 := hat2 .nil
      rw [e, hat] at e1
      injection e1 with e1
      injection e1 with _ e1
      omega
    exact ⟨k2, hk2, h2 _ hl2 hkk, fun zd => by rw [h3 _ zd hkk, hat2]⟩
theorem Keys.none {B : List UInt8} {L : List Bk} {D : DataW Unit} {left : Lit → Bool} {i : Nat} (h : Keys B L D left i) (hl : ∀ kl, left kl = false) : L = [] := by
  cases L with
  | nil => rfl
  | cons b r =>
    obtain ⟨k, _, hk, _⟩ := h.all b (by simp)
    rw [hl] at hk
    cases hk
theorem del_left1 {D : DataW Unit} {k : Nat} (kl : Lit) (h : has (D.del (KL k)) kl = true) : has D kl = true ∧ kl ≠ KL k := by
  by_cases e : kl = KL k
  · subst e
    rw [has_del_same] at h
    cases h
  · exact ⟨by rwa [has_del_other e] at h, e⟩
theorem del_left2 {D : DataW Unit} {k : Nat} (kl : Lit) (h : has D kl = true) (e : kl ≠ KL k) : has (D.del (KL k)) kl = true := by rwa [has_del_other e]
theorem step_left1 {left : Lit → Bool} {k : Nat} (hk : k < 30) (kl : Lit) (h : (left kl && !kl.sameKey (KL k)) = true) : left kl = true ∧ kl ≠ KL k := by
  simp only [Bool.and_eq_true, Bool.not_eq_true'] at h
  refine ⟨h.1, fun e => ?_⟩
  subst e
  rw [WideAt.sameKey_self (kl_key hk)] at h
  exact absurd h.2 (by decide)
theorem step_left2 {left : Lit → Bool} {k : Nat} (kl : Lit) (h : left kl = true) (e : kl ≠ KL k) : (left kl && !kl.sameKey (KL k)) = true := by
  rw [h, sameKey_ne e]
  rfl
theorem alloc_err {T : Nat} {L : List Bk} {n : Int} (hn : 1 ≤ n) : (allocO T L n).2.2 = 0 ∨ (allocO T L n).2.2 = 5 ∧ (allocO T L n).1 = L := by
  unfold allocO
  rw [if_neg (by omega)]
  split
  · exact .inr ⟨rfl, rfl⟩
  · split
    · exact .inr ⟨rfl, rfl⟩
    · exact .inl rfl
theorem alloc_all (T : Nat) (h : T = 512) : allocO T [] 512 = ([(0, 512)], 0, 0) := by
  subst h
  rfl
/-- the map's block is written: the others stand -/
theorem ownk_turn {w w' : World} {base k g n : Nat} {e : TypeId} {v : Value} {xs : List Value} (h : w.ownsRow base e k v n xs) (hg : ∀ C t fr, w.heap[g]? ≠ some (.cells C t fr)) (hk : ∀ j, j < w.heap.size → j ≠ g → w'.heap[j]? = w.heap[j]?) : w'.ownsRow base e k v n xs := by
  refine ⟨h.1, ?_⟩
  rcases h.2 with h | ⟨g', cap, cur, rfl, h1, h2, h3⟩
  · exact .inl h
  · exact .inr ⟨g', cap, cur, rfl, h1, (hk g' (row_lt h2) fun e => hg _ _ _ (by rw [← e]; exact h2)).trans h2, h3⟩
theorem VarH.turn {N g : Nat} {B : List UInt8} {L : List Bk} {D : List Bool} {w w' : World} (h : VarH N B L D w) (hg : ∀ C t fr, w.heap[g]? ≠ some (.cells C t fr)) (hk : ∀ j, j < w.heap.size → j ≠ g → w'.heap[j]? = w.heap[j]?) : VarH N B L D w' := by
  obtain ⟨v1, v2, v3, h1, h2, h3, h4⟩ := h
  exact ⟨v1, v2, v3, (hk N (row_lt h1) fun e => hg _ _ _ (by rw [← e]; exact h1)).trans h1, ownk_turn h2 hg hk, ownk_turn h3 hg hk, ownk_turn h4 hg hk⟩
/-- a map of the call's own, block M: ints by ints -/
abbrev OwnM (M n : Nat) (D : DataW Unit) (w : World) : Prop := w.ownsMap Try.prog 3 (plainElem Try.prog 3) M n D
abbrev RangeM (M r n : Nat) (D : DataW Unit) (left : Lit → Bool) (cnt : Nat) (w : World) : Prop := w.ranges Try.prog 3 (plainElem Try.prog 3) M r n D left cnt
theorem OwnM.of {M n : Nat} {D : DataW Unit} {w w' : World} (h : OwnM M n D w) (hh : w'.heap[M]? = w.heap[M]?) : OwnM M n D w' := by
  obtain ⟨es, clock, h1, h2⟩ := h
  exact ⟨es, clock, hh.trans h1, h2⟩
theorem OwnM.below {M n b : Nat} {D : DataW Unit} {w w' : World} (h : OwnM M n D w) (hb : Below b w w') (hB : w.heap.size ≤ b := by first | exact Nat.le_refl _ | simp) : OwnM M n D w' := h.of (hb.block M (Nat.lt_of_lt_of_le (World.ownsMap.lt h) hB))
theorem OwnM.nocells {M n : Nat} {D : DataW Unit} {w : World} (h : OwnM M n D w) : ∀ C t fr, w.heap[M]? ≠ some (.cells C t fr) := by
  obtain ⟨es, clock, h1, _⟩ := h
  intro C t fr e
  rw [h1] at e
  cases e
theorem OwnM.set {M n N : Nat} {D : DataW Unit} {w : World} {C : Array Value} {t : TypeId} {fr : Nat × Nat} (h : OwnM M n D w) (hN : w.heap[N]? = some (.cells C t fr)) (cs : Array Value) : OwnM M n D (w.setRow N cs) :=
  h.of (setRow_other w N M cs fun e => h.nocells C t fr (by rw [e]; exact hN))
theorem RangeM.of {M r n cnt : Nat} {D : DataW Unit} {left : Lit → Bool} {w w' : World} (h : RangeM M r n D left cnt w) (hh : w'.heap[M]? = w.heap[M]?) (hr : w'.heap[r]? = w.heap[r]?) : RangeM M r n D left cnt w' := by
  obtain ⟨es, clock, since, seen, c0, h1, h2, h3, h4, h5, h6⟩ := h
  exact ⟨es, clock, since, seen, c0, hh.trans h1, h2, h3, h4, hr.trans h5, h6⟩
theorem RangeM.below {M r n cnt b : Nat} {D : DataW Unit} {left : Lit → Bool} {w w' : World} (h : RangeM M r n D left cnt w) (hb : Below b w w') (hB : w.heap.size ≤ b := by first | exact Nat.le_refl _ | simp) : RangeM M r n D left cnt w' :=
  h.of (hb.block M (Nat.lt_of_lt_of_le (World.ownsMap.lt (World.ranges.owns h)) hB)) (hb.block r (Nat.lt_of_lt_of_le (World.ranges.lt h) hB))
theorem RangeM.nocells {M r n cnt : Nat} {D : DataW Unit} {left : Lit → Bool} {w : World} (h : RangeM M r n D left cnt w) : (∀ C t fr, w.heap[M]? ≠ some (.cells C t fr)) ∧ ∀ C t fr, w.heap[r]? ≠ some (.cells C t fr) := by
  obtain ⟨es, clock, since, seen, c0, h1, h2, h3, h4, h5, h6⟩ := h
  exact ⟨fun C t fr e => (by rw [h1] at e; cases e), fun C t fr e => (by rw [h5] at e; cases e)⟩
theorem RangeM.set {M r n cnt N : Nat} {D : DataW Unit} {left : Lit → Bool} {w : World} {C : Array Value} {t : TypeId} {fr : Nat × Nat} (h : RangeM M r n D left cnt w) (hN : w.heap[N]? = some (.cells C t fr)) (cs : Array Value) : RangeM M r n D left cnt (w.setRow N cs) :=
  h.of (setRow_other w N M cs fun e => h.nocells.1 C t fr (by rw [e]; exact hN)) (setRow_other w N r cs fun e => h.nocells.2 C t fr (by rw [e]; exact hN))
theorem intlaw : Keyed Try.prog 3 := int_keyed Try.underlying3
theorem key_int {k : Int} (h : (Lit.int .i64 k).wf = true) : keyOf Try.prog 3 (.int .i64 k) = some (.int .i64 k) := keyOf_int_mk Try.underlying3 h
theorem wf_nat {a : Nat} (h : a < 100000) : (Lit.int .i64 (a : Int)).wf = true := by
  simp [Lit.wf, IntKind.min, IntKind.max, IntKind.signed, IntKind.bits]
  omega
theorem zero_int (w : World) : (zeroValue 3).run Try.prog w = .ok (.int .i64 0) w := by kernel_rfl
end Go.Proofs.Ytagajijjcjfopaa
