/-
  WheelOnce: a map that keeps when each thing is due, and a wheel. Plain mathematics over the library's maps. No condition.
-/
import Derived.Test.YtljochpomgjjeaaOpW
import Derived.Maps.OwnOps
import Derived.Maps.RangeWalk
namespace Go.Proofs.Ytljochpomgjjeaa
open Go.RowKit Go.Maps

abbrev KI (k : Int) : Lit := .int .i64 k
theorem ki_inj {j k : Int} (h : KI j = KI k) : j = k := by
  injection h with _ h
theorem ki_key (k : Int) : WideAt.IsKeyLit (KI k) := by
  first | trivial | (simp [WideAt.IsKeyLit])
/-- the map has each timer's thing, and when it is due, and nothing else -/
structure Keeps (D : DataW Unit) (T : List Tm) : Prop where
  at_ : ∀ kl, has D kl = true → ∃ t ∈ T, kl = KI t.id
  all : ∀ t ∈ T, has D (KI t.id) = true ∧ ∀ zd, D.atKey (KI t.id) zd = .lit (.int .u64 (t.due : Int))
theorem keeps_start : Keeps (.map [] : DataW Unit) [] := ⟨fun kl h => (by cases h), fun b h => (by cases h)⟩
theorem Keeps.del {D : DataW Unit} {T : List Tm} (h : Keeps D T) (id : Int) : Keeps (D.del (KI id)) (T.filter (notI id)) := by
  refine ⟨fun kl hk => ?_, fun t ht => ?_⟩
  · by_cases e : kl = KI id
    · subst e
      rw [has_del_same] at hk
      cases hk
    · rw [has_del_other e] at hk
      obtain ⟨t, ht, rfl⟩ := h.at_ kl hk
      exact ⟨t, List.mem_filter.2 ⟨ht, decide_eq_true fun q => e (by rw [q])⟩, rfl⟩
  · obtain ⟨ht, hq⟩ := List.mem_filter.1 ht
    have e : KI t.id ≠ KI id := fun q => of_decide_eq_true hq (ki_inj q)
    obtain ⟨h1, h2⟩ := h.all t ht
    exact ⟨by rw [has_del_other e]; exact h1, fun zd => by rw [atKey_del_other e]; exact h2 zd⟩
theorem Keeps.put {D : DataW Unit} {T : List Tm} (h : Keeps D T) (hD : IsMap D) (id : Int) (n : Nat) : Keeps (D.put (KI id) (.lit (.int .u64 (n : Int)))) (insT ⟨id, n⟩ (T.filter (notI id))) := by
  refine ⟨fun kl hk => ?_, fun t ht => ?_⟩
  · by_cases e : kl = KI id
    · exact ⟨⟨id, n⟩, ins_mem.2 (.inl rfl), e⟩
    · rw [has_put_other e] at hk
      obtain ⟨t, ht, rfl⟩ := h.at_ kl hk
      exact ⟨t, ins_mem.2 (.inr (List.mem_filter.2 ⟨ht, decide_eq_true fun q => e (by rw [q])⟩)), rfl⟩
  · rcases ins_mem.1 ht with rfl | ht
    · exact ⟨has_put_same hD (ki_key id) _, fun zd => atKey_put_same hD (ki_key id) _ _⟩
    · obtain ⟨ht, hq⟩ := List.mem_filter.1 ht
      have e : KI t.id ≠ KI id := fun q => of_decide_eq_true hq (ki_inj q)
      obtain ⟨h1, h2⟩ := h.all t ht
      exact ⟨by rw [has_put_other e]; exact h1, fun zd => by rw [atKey_put_other e]; exact h2 zd⟩
/-- without those that were told -/
def goneT (ids : List Int) (T : List Tm) : List Tm := T.filter fun t => decide (t.id ∉ ids)
theorem gone_nil (T : List Tm) : goneT [] T = T := List.filter_eq_self.2 fun t _ => by simp
theorem gone_snoc {ids : List Int} {j : Nat} {z : Int} (h : ids[j]? = some z) (T : List Tm) : goneT (ids.take (j + 1)) T = (goneT (ids.take j) T).filter (notI z) := by
  have hi := (List.getElem?_eq_some_iff.1 h).1
  unfold goneT
  rw [List.filter_filter, List.take_succ_eq_append_getElem hi, (List.getElem?_eq_some_iff.1 h).2]
  refine List.filter_congr fun t _ => ?_
  unfold notI
  by_cases h1 : t.id = z <;> by_cases h2 : t.id ∈ ids.take j <;> simp [h1, h2] <;> simp_all
theorem id_uniq : ∀ {T : List Tm}, T.Pairwise before → ∀ a ∈ T, ∀ b ∈ T, a.id = b.id → a = b
  | [], _, a, ha, _, _, _ => by cases ha
  | t :: T, h, a, ha, b, hb, e => by
    obtain ⟨h1, h2⟩ := List.pairwise_cons.1 h
    rcases List.mem_cons.1 ha with rfl | ha2 <;> rcases List.mem_cons.1 hb with rfl | hb2
    · rfl
    · exact absurd e (h1 b hb2).1
    · exact absurd e.symm (h1 a ha2).1
    · exact id_uniq h2 a ha2 b hb2 e
theorem mem_due {n : Nat} {T : List Tm} {z : Int} : z ∈ dueX n T ↔ ∃ t ∈ T, t.due = n ∧ t.id = z := by
  unfold dueX
  rw [List.mem_map]
  constructor
  · rintro ⟨t, ht, e⟩
    obtain ⟨ht, hq⟩ := List.mem_filter.1 ht
    exact ⟨t, ht, of_decide_eq_true hq, e⟩
  · rintro ⟨t, ht, hq, e⟩
    exact ⟨t, List.mem_filter.2 ⟨ht, decide_eq_true hq⟩, e⟩
theorem gone_due {T : List Tm} (hp : T.Pairwise before) (n : Nat) : goneT (dueX n T) T = T.filter (notDue n) := by
  unfold goneT
  refine List.filter_congr fun t ht => ?_
  unfold notDue
  refine decide_eq_decide.2 ⟨fun h e => h (mem_due.2 ⟨t, ht, e, rfl⟩), fun h e => ?_⟩
  obtain ⟨u, hu, hd, hi⟩ := mem_due.1 e
  have := id_uniq hp t ht u hu hi.symm
  subst this
  exact h hd
theorem due_nodup {T : List Tm} (hp : T.Pairwise before) (n : Nat) : (dueX n T).Nodup := by
  unfold dueX List.Nodup
  rw [List.pairwise_map]
  exact (hp.sublist List.filter_sublist).imp fun h => h.1
/-- what is told is yet in the map, and due now -/
theorem due_in {T : List Tm} (hp : T.Pairwise before) {n j : Nat} {z : Int} (hz : (dueX n T)[j]? = some z) : ∃ t ∈ goneT ((dueX n T).take j) T, t.id = z ∧ t.due = n := by
  obtain ⟨t, ht, hd, hi⟩ := mem_due.1 (List.mem_of_getElem? hz)
  refine ⟨t, List.mem_filter.2 ⟨ht, decide_eq_true fun hm => ?_⟩, hi, hd⟩
  rw [hi] at hm
  have hn := due_nodup hp n
  obtain ⟨hj, he⟩ := List.getElem?_eq_some_iff.1 hz
  rw [← List.take_append_drop j (dueX n T), List.nodup_append] at hn
  have hzd : z ∈ (dueX n T).drop j := by
    rw [List.drop_eq_getElem_cons hj, he]
    exact List.mem_cons_self
  exact hn.2.2 z hm z hzd rfl
/-- all that is left of a map that keeps a wheel is due later -/
theorem Keeps.later {D : DataW Unit} {T : List Tm} {n : Nat} (h : Keeps D T) (hr : rightW n T = true) {kl : Lit} (hk : has D kl = true) : ∃ (k : Int) (u : Nat), kl = KI k ∧ (∀ zd, D.atKey kl zd = .lit (.int .u64 (u : Int))) ∧ n < u := by
  obtain ⟨t, ht, rfl⟩ := h.at_ kl hk
  exact ⟨t.id, t.due, rfl, (h.all t ht).2, (rightW_iff.1 hr).2.2.2 t ht⟩
theorem Keeps.none {D : DataW Unit} (h : Keeps D []) (kl : Lit) : has D kl = false := by
  cases hk : has D kl with
  | false => rfl
  | true =>
    obtain ⟨t, ht, _⟩ := h.at_ kl hk
    cases ht
theorem Keeps.has_id {D : DataW Unit} {T : List Tm} (h : Keeps D T) (id : Int) : has D (KI id) = true ↔ ∃ t ∈ T, t.id = id := by
  constructor
  · intro hk
    obtain ⟨t, ht, e⟩ := h.at_ _ hk
    exact ⟨t, ht, (ki_inj e).symm⟩
  · rintro ⟨t, ht, rfl⟩
    exact (h.all t ht).1
theorem len_with (id : Int) : ∀ {T : List Tm}, T.Pairwise before → (∃ t ∈ T, t.id = id) → (T.filter (notI id)).length + 1 = T.length
  | [], _, h => by
    obtain ⟨t, ht, _⟩ := h
    cases ht
  | t :: T, hp, h => by
    obtain ⟨h1, h2⟩ := List.pairwise_cons.1 hp
    by_cases e : t.id = id
    · rw [List.filter_cons_of_neg (by unfold notI; simp [e])]
      have : T.filter (notI id) = T := List.filter_eq_self.2 fun u hu => decide_eq_true fun q => (h1 u hu).1 (by rw [e, q])
      rw [this]
      rfl
    · rw [List.filter_cons_of_pos (by unfold notI; simp [e])]
      obtain ⟨u, hu, hi⟩ := h
      rcases List.mem_cons.1 hu with rfl | hu
      · exact absurd hi e
      · have := len_with id h2 ⟨u, hu, hi⟩
        simp only [List.length_cons]
        omega
theorem len_without (id : Int) {T : List Tm} (h : ¬ ∃ t ∈ T, t.id = id) : T.filter (notI id) = T := List.filter_eq_self.2 fun t ht => decide_eq_true fun q => h ⟨t, ht, q⟩
/-- no more in the map than there is in the wheel -/
structure Sized (D : DataW Unit) (T : List Tm) : Prop where
  tidy : Tidy D
  size : Maps.size D = T.length
theorem sized_start : Sized (.map [] : DataW Unit) [] := ⟨tidy_empty, rfl⟩
theorem Sized.del {D : DataW Unit} {T : List Tm} (h : Sized D T) (hk : Keeps D T) (hp : T.Pairwise before) (id : Int) : Sized (D.del (KI id)) (T.filter (notI id)) := by
  refine ⟨h.tidy.del _, ?_⟩
  have h1 := size_del (k := KI id) h.tidy
  rw [h.size] at h1
  by_cases e : ∃ t ∈ T, t.id = id
  · rw [if_pos ((hk.has_id id).2 e)] at h1
    have := len_with id hp e
    omega
  · rw [if_neg fun q => e ((hk.has_id id).1 q)] at h1
    rw [len_without id e]
    omega
theorem Sized.put {D : DataW Unit} {T : List Tm} (h : Sized D T) (hk : Keeps D T) (hp : T.Pairwise before) (id : Int) (n : Nat) (d : DataW Unit) : Sized (D.put (KI id) d) (insT ⟨id, n⟩ (T.filter (notI id))) := by
  refine ⟨h.tidy.put (ki_key id) _, ?_⟩
  rw [size_put h.tidy, h.size, ins_len]
  by_cases e : ∃ t ∈ T, t.id = id
  · rw [if_pos ((hk.has_id id).2 e)]
    exact (len_with id hp e).symm
  · rw [if_neg fun q => e ((hk.has_id id).1 q), len_without id e]
end Go.Proofs.Ytljochpomgjjeaa
