/-
  A wheel from another time on: all is the same, but the times. Plain mathematics. No condition.
-/
import Derived.Test.YtljochpomgjjeaaLiW
namespace Go.Proofs.Ytljochpomgjjeaa
open Go.RowKit

/-- all later by so much -/
def shT (d : Nat) (T : List Tm) : List Tm := T.map fun t => ⟨t.id, t.due + d⟩
theorem sh_len (d : Nat) (T : List Tm) : (shT d T).length = T.length := List.length_map ..
theorem sh_at {d : Nat} {T : List Tm} {i : Nat} {x : Tm} (h : T[i]? = some x) : (shT d T)[i]? = some ⟨x.id, x.due + d⟩ := by
  unfold shT
  rw [List.getElem?_map, h]
  rfl
theorem sh_filter {d : Nat} {p q : Tm → Bool} (h : ∀ t : Tm, q ⟨t.id, t.due + d⟩ = p t) (T : List Tm) : (shT d T).filter q = shT d (T.filter p) := by
  unfold shT
  rw [List.filter_map]
  congr 1
  exact List.filter_congr fun t _ => h t
theorem sh_notI (d : Nat) (id : Int) (T : List Tm) : (shT d T).filter (notI id) = shT d (T.filter (notI id)) := sh_filter (fun _ => rfl) T
theorem sh_notDue (d n : Nat) (T : List Tm) : (shT d T).filter (notDue (n + d)) = shT d (T.filter (notDue n)) := sh_filter (fun t => by unfold notDue; exact decide_eq_decide.2 (by simp)) T
theorem sh_due (d n : Nat) (T : List Tm) : dueX (n + d) (shT d T) = dueX n T := by
  unfold dueX
  rw [sh_filter (p := isDue n) (fun t => by unfold isDue; exact decide_eq_decide.2 (by simp))]
  unfold shT
  rw [List.map_map]
  rfl
theorem sh_some (d : Nat) (T : List Tm) (id : Int) : someD (shT d T) id = someD T id := by
  unfold someD
  rw [sh_notI, sh_len, sh_len]
theorem sh_ins (d a : Nat) (id : Int) (L : List Tm) : insT ⟨id, a + d⟩ (shT d L) = shT d (insT ⟨id, a⟩ L) := by
  unfold insT shT
  rw [List.takeWhile_map, List.dropWhile_map, List.map_append, List.map_cons]
  have h : ((fun x : Tm => decide (x.due ≤ a + d)) ∘ fun t : Tm => (⟨t.id, t.due + d⟩ : Tm)) = fun x : Tm => decide (x.due ≤ a) := funext fun t => decide_eq_decide.2 (by simp)
  show List.map _ (List.takeWhile ((fun x : Tm => decide (x.due ≤ a + d)) ∘ fun t : Tm => (⟨t.id, t.due + d⟩ : Tm)) L) ++ _ :: List.map _ (List.dropWhile ((fun x : Tm => decide (x.due ≤ a + d)) ∘ fun t : Tm => (⟨t.id, t.due + d⟩ : Tm)) L) = _
  rw [h]
theorem sh_set (d n : Nat) (T : List Tm) (id : Int) (after : Nat) : setC (n + d) (shT d T) id after = (shT d (setC n T id after).1, (setC n T id after).2) := by
  unfold setC
  rw [sh_notI, sh_len]
  split
  · rfl
  · split
    · rfl
    · rw [show n + d + max after 1 = (n + max after 1) + d by omega, sh_ins]
theorem sh_right {d n : Nat} {T : List Tm} (h : rightW n T = true) (hd : n + d ≤ 4611686018427387904) : rightW (n + d) (shT d T) = true := by
  obtain ⟨h1, _, h3, h4⟩ := rightW_iff.1 h
  refine rightW_iff.2 ⟨by rw [sh_len]; exact h1, hd, ?_, fun t ht => ?_⟩
  · unfold shT
    rw [List.pairwise_map]
    exact h3.imp fun h => ⟨h.1, by have := h.2; simp only; omega⟩
  · obtain ⟨u, hu, rfl⟩ := List.mem_map.1 ht
    have := h4 u hu
    simp only
    omega
/-- nothing is due later than may be set -/
def lowT (n : Nat) (T : List Tm) : Prop := ∀ t ∈ T, I64 t.id ∧ t.due ≤ n + 4611686018427387904
theorem low_filter {n : Nat} {T : List Tm} {p : Tm → Bool} (h : lowT n T) : lowT n (T.filter p) := fun t ht => h t (List.mem_filter.1 ht).1
theorem low_next {n : Nat} {T : List Tm} (h : lowT n T) : lowT (n + 1) T := fun t ht => ⟨(h t ht).1, by have := (h t ht).2; omega⟩
theorem low_set {n : Nat} {T : List Tm} {id : Int} {after : Nat} (h : lowT n T) (hi : I64 id) : lowT n (setC n T id after).1 := by
  unfold setC
  split
  · exact h
  · split
    · exact h
    · intro t ht
      rcases ins_mem.1 ht with rfl | ht
      · exact ⟨hi, by simp only; omega⟩
      · exact low_filter h t ht
theorem low_ok {n : Nat} {T : List Tm} (h : lowT n T) (hn : n ≤ 4611686018427387904) : okT T := fun t ht => ⟨(h t ht).1, by have := (h t ht).2; omega⟩
theorem low_sh {n d : Nat} {T : List Tm} (h : lowT n T) (hn : n + d ≤ 4611686018427387904) : okT (shT d T) := fun t ht => by
  obtain ⟨u, hu, rfl⟩ := List.mem_map.1 ht
  obtain ⟨h1, h2⟩ := h u hu
  exact ⟨h1, by simp only; omega⟩
/-- rows stand while two other variables turn -/
theorem tl_gro2 {α : Type} {e : TypeId} {f : α → Array Value} {w w' : World} {v : Value} {K : List α} {g1 g2 : Nat} {C D : Array Value} {t u : TypeId} {fr fr2 : Nat × Nat} (h : TlT e f w v K) (hg : Gro (fun k => k = g1 ∨ k = g2) w w') (h1 : w.heap[g1]? = some (.cells C t fr)) (h2 : w.heap[g2]? = some (.cells D u fr2)) (ht : t ≠ e) (hu : u ≠ e) : TlT e f w' v K :=
  h.keep fun g E hE => hg.block g (row_lt hE) fun q => by
    rcases q with rfl | rfl
    · rw [h1] at hE
      injection hE with hE
      injection hE with _ hE
      exact ht hE
    · rw [h2] at hE
      injection hE with hE
      injection hE with _ hE
      exact hu hE
end Go.Proofs.Ytljochpomgjjeaa
