/-
  The runs of a list of numbers: what they are, that nothing else is; what pieces and one more make of them. Plain mathematics. No condition.
-/
import Derived.Test.YtdgfhcojmfgimaaRqz
import Derived.Test.YtdgfhcojmfgimaaRdn
namespace Go.Proofs.Ytdgfhcojmfgimaa
open Go.RowKit

abbrev Rn := Nat × List UInt8
def Rn.fin (p : Rn) : Nat := p.1 + p.2.length
/-- these are the runs of what came -/
structure GRuns (l : List Int) (ps : List Rn) : Prop where
  gap : ps.Pairwise (fun p q => p.1 + p.2.length < q.1)
  ne : ∀ p ∈ ps, p.2 ≠ []
  val : ∀ p ∈ ps, ∀ (k : Nat) b, p.2[k]? = some b → l[p.1 + k]? = some (b.toNat : Int)
  cov : ∀ (i : Nat) c, l[i]? = some c → 0 ≤ c → ∃ p ∈ ps, p.1 ≤ i ∧ i < p.1 + p.2.length
theorem pcs_val {l : List Int} : ∀ {ps : List Rn} {t : Nat}, Pcs l t ps → ∀ p ∈ ps, p.2 ≠ [] ∧ ∀ (k : Nat) b, p.2[k]? = some b → l[p.1 + k]? = some (b.toNat : Int)
  | (o, d) :: r, t, h, p, hp => by
    obtain ⟨_, h2, _, h4, h5⟩ := h
    rcases List.mem_cons.1 hp with rfl | hp
    · exact ⟨h2, h4⟩
    · exact pcs_val h5 p hp
theorem pcs_cov {l : List Int} : ∀ {ps : List Rn} {t : Nat}, Pcs l t ps → ∀ (i : Nat) c, t ≤ i → l[i]? = some c → 0 ≤ c → ∃ p ∈ ps, p.1 ≤ i ∧ i < p.1 + p.2.length
  | [], t, h, i, c, hi, hc, h0 => by have := h i c hi hc; omega
  | (o, d) :: r, t, h, i, c, hi, hc, h0 => by
    obtain ⟨h1, h2, h3, h4, h5⟩ := h
    by_cases a : i < o
    · have := h3 i c hi a hc; omega
    · by_cases b : i < o + d.length
      · exact ⟨(o, d), List.mem_cons_self .., by simp only; omega, b⟩
      · obtain ⟨p, hp, h6⟩ := pcs_cov h5 i c (by omega) hc h0
        exact ⟨p, List.mem_cons_of_mem _ hp, h6⟩
theorem runs_gap : ∀ (l : List Int) (i : Nat), (runsL i l).Pairwise (fun p q : Rn => p.1 + p.2.length < q.1)
  | [], i => List.Pairwise.nil
  | c :: l, i => by
    have ih := runs_gap l (i + 1)
    have hf := (runs_first l (i + 1)).2.2
    rw [runsL]
    by_cases hc : c < 0
    · rw [if_pos hc]; exact ih
    · rw [if_neg hc]
      cases hr : runsL (i + 1) l with
      | nil => exact List.pairwise_singleton _ _
      | cons p r =>
        obtain ⟨j, d⟩ := p
        rw [hr] at ih
        have hj := hf j d r hr
        obtain ⟨h1, h2⟩ := List.pairwise_cons.1 ih
        dsimp only
        split
        · rename_i e
          refine List.pairwise_cons.2 ⟨fun q hq => ?_, h2⟩
          have := h1 q hq
          simp only [List.length_cons] at this ⊢
          omega
        · refine List.pairwise_cons.2 ⟨fun q hq => ?_, ih⟩
          rcases List.mem_cons.1 hq with rfl | hq
          · simp only [List.length_cons, List.length_nil]; omega
          · have := h1 q hq
            simp only [List.length_cons, List.length_nil] at this ⊢
            omega
theorem runs_g {l : List Int} (hb : ∀ c ∈ l, c ≤ 255) : GRuns l (runsL 0 l) where
  gap := runs_gap l 0
  ne := fun p hp => (pcs_val (runs_pcs l hb l 0 rfl) p hp).1
  val := fun p hp => (pcs_val (runs_pcs l hb l 0 rfl) p hp).2
  cov := fun i c hi hc => pcs_cov (runs_pcs l hb l 0 rfl) i c (Nat.zero_le _) hi hc
section
variable {l : List Int} {ps qs : List Rn}
theorem GRuns.at_ (h : GRuns l ps) {p : Rn} (hp : p ∈ ps) {i : Nat} (h1 : p.1 ≤ i) (h2 : i < p.1 + p.2.length) : ∃ b : UInt8, p.2[i - p.1]? = some b ∧ l[i]? = some (b.toNat : Int) := by
  have hg := List.getElem?_eq_getElem (l := p.2) (i := i - p.1) (by omega)
  refine ⟨_, hg, ?_⟩
  have := h.val p hp _ _ hg
  rwa [show p.1 + (i - p.1) = i from by omega] at this
theorem GRuns.pos (h : GRuns l ps) {p : Rn} (hp : p ∈ ps) : 0 < p.2.length := List.length_pos_iff.2 (h.ne p hp)
theorem gap_two (h : ps.Pairwise (fun p q : Rn => p.1 + p.2.length < q.1)) {p q : Rn} (hp : p ∈ ps) (hq : q ∈ ps) : p = q ∨ p.1 + p.2.length < q.1 ∨ q.1 + q.2.length < p.1 := by
  induction ps with
  | nil => cases hp
  | cons x r ih =>
    obtain ⟨h1, h2⟩ := List.pairwise_cons.1 h
    rcases List.mem_cons.1 hp with e1 | hp1
    · rcases List.mem_cons.1 hq with e2 | hq1
      · exact .inl (e1.trans e2.symm)
      · exact .inr (.inl (by rw [e1]; exact h1 q hq1))
    · rcases List.mem_cons.1 hq with e2 | hq1
      · exact .inr (.inr (by rw [e2]; exact h1 p hp1))
      · exact ih h2 hp1 hq1
/-- behind a run: nothing -/
theorem GRuns.stop (h : GRuns l ps) {p : Rn} (hp : p ∈ ps) {c : Int} (hc : l[p.1 + p.2.length]? = some c) : c < 0 := by
  rcases Int.lt_or_le c 0 with h0 | h0
  · exact h0
  · obtain ⟨q, hq, h1, h2⟩ := h.cov _ _ hc h0
    rcases gap_two h.gap hp hq with rfl | h3 | h3 <;> omega
theorem GRuns.tail {o : Nat} {d : List UInt8} {r : List Rn} (h : GRuns l ((o, d) :: r)) : (∀ p ∈ r, o + d.length < p.1) ∧ r.Pairwise (fun p q => p.1 + p.2.length < q.1) := List.pairwise_cons.1 h.gap
/-- the runs of what came from a place on -/
structure TRuns (l : List Int) (t : Nat) (ps : List Rn) : Prop where
  gap : ps.Pairwise (fun p q => p.1 + p.2.length < q.1)
  ge : ∀ p ∈ ps, t ≤ p.1
  ne : ∀ p ∈ ps, p.2 ≠ []
  val : ∀ p ∈ ps, ∀ (k : Nat) b, p.2[k]? = some b → l[p.1 + k]? = some (b.toNat : Int)
  cov : ∀ (i : Nat) c, t ≤ i → l[i]? = some c → 0 ≤ c → ∃ p ∈ ps, p.1 ≤ i ∧ i < p.1 + p.2.length
theorem truns_unique : ∀ {ps qs : List Rn} {t : Nat}, TRuns l t ps → TRuns l t qs → ps = qs
  | [], [], _, _, _ => rfl
  | [], q :: qs, t, h, k => by
    have hm := List.mem_cons_self (a := q) (l := qs)
    have hl := List.length_pos_iff.2 (k.ne q hm)
    have hv := k.val q hm 0 _ (List.getElem?_eq_getElem hl)
    obtain ⟨p, hp, _⟩ := h.cov _ _ (by have := k.ge q hm; omega) hv (Int.natCast_nonneg _)
    cases hp
  | q :: qs, [], t, k, h => by
    have hm := List.mem_cons_self (a := q) (l := qs)
    have hl := List.length_pos_iff.2 (k.ne q hm)
    have hv := k.val q hm 0 _ (List.getElem?_eq_getElem hl)
    obtain ⟨p, hp, _⟩ := h.cov _ _ (by have := k.ge q hm; omega) hv (Int.natCast_nonneg _)
    cases hp
  | (o, d) :: ps, (o2, d2) :: qs, t, h, k => by
    have first : ∀ {o o2 : Nat} {d d2 : List UInt8} {ps qs : List Rn}, TRuns l t ((o, d) :: ps) → TRuns l t ((o2, d2) :: qs) → o2 ≤ o := fun {o o2 d d2 ps qs} h k => by
      have hm := List.mem_cons_self (a := (o, d)) (l := ps)
      have hl : 0 < d.length := List.length_pos_iff.2 (h.ne _ hm)
      have hv := h.val _ hm 0 _ (List.getElem?_eq_getElem hl)
      obtain ⟨p, hp, h1, _⟩ := k.cov _ _ (by have := h.ge _ hm; omega) hv (Int.natCast_nonneg _)
      rcases List.mem_cons.1 hp with rfl | hp
      · simpa using h1
      · have := (List.pairwise_cons.1 k.gap).1 p hp
        simp only at this h1
        omega
    have hoo : o = o2 := Nat.le_antisymm (first k h) (first h k)
    subst hoo
    have len : ∀ {d d2 : List UInt8} {ps qs : List Rn}, TRuns l t ((o, d) :: ps) → TRuns l t ((o, d2) :: qs) → d2.length ≤ d.length := fun {d d2 ps qs} h k => by
      rcases Nat.lt_or_ge d.length d2.length with hlt | hge
      · have hm := List.mem_cons_self (a := (o, d2)) (l := qs)
        have hv := k.val _ hm d.length _ (List.getElem?_eq_getElem hlt)
        obtain ⟨p, hp, h1, h2⟩ := h.cov _ _ (by have := k.ge _ hm; simp only at this; omega) hv (Int.natCast_nonneg _)
        rcases List.mem_cons.1 hp with rfl | hp
        · simp only at h2; omega
        · have := (List.pairwise_cons.1 h.gap).1 p hp
          simp only at this h1
          omega
      · exact hge
    have hll : d.length = d2.length := Nat.le_antisymm (len k h) (len h k)
    have hdd : d = d2 := by
      refine List.ext_getElem? fun j => ?_
      rcases Nat.lt_or_ge j d.length with hj | hj
      · have a1 := List.getElem?_eq_getElem hj
        have a2 := List.getElem?_eq_getElem (l := d2) (i := j) (by omega)
        have v1 := h.val _ (List.mem_cons_self ..) j _ a1
        have v2 := k.val _ (List.mem_cons_self ..) j _ a2
        simp only at v1 v2
        rw [v1] at v2
        injection v2 with v2
        rw [a1, a2, UInt8.toNat_inj.1 (Int.ofNat.inj v2)]
      · rw [List.getElem?_eq_none hj, List.getElem?_eq_none (by omega)]
    subst hdd
    have cut : ∀ {ps : List Rn}, TRuns l t ((o, d) :: ps) → TRuns l (o + d.length) ps := fun {ps} h => by
      obtain ⟨g1, g2⟩ := List.pairwise_cons.1 h.gap
      refine ⟨g2, fun p hp => Nat.le_of_lt (g1 p hp), fun p hp => h.ne p (List.mem_cons_of_mem _ hp), fun p hp => h.val p (List.mem_cons_of_mem _ hp), fun i c hi hc h0 => ?_⟩
      obtain ⟨p, hp, h1, h2⟩ := h.cov i c (by have := h.ge _ (List.mem_cons_self ..); simp only at this; omega) hc h0
      rcases List.mem_cons.1 hp with rfl | hp
      · simp only at h2; omega
      · exact ⟨p, hp, h1, h2⟩
    rw [truns_unique (cut h) (cut k)]
theorem GRuns.t (h : GRuns l ps) : TRuns l 0 ps := ⟨h.gap, fun _ _ => Nat.zero_le _, h.ne, h.val, fun i c _ hc h0 => h.cov i c hc h0⟩
theorem gruns_unique (h : GRuns l ps) (k : GRuns l qs) : ps = qs := truns_unique h.t k.t
end

/-! ### one piece more -/
def aheadN (s : Nat) (t : Rn) : Bool := decide (t.1 + t.2.length < s)
def behindN (s : Nat) (P : List UInt8) (t : Rn) : Bool := decide (s + P.length < t.1)
def touchN (s : Nat) (P : List UInt8) (t : Rn) : Bool := !behindN s P t && !aheadN s t
def fromN (s : Nat) (P : List UInt8) (ps : List Rn) : Nat := (ps.filter (touchN s P)).foldl (fun a t => min a t.1) s
def toN (s : Nat) (P : List UInt8) (ps : List Rn) : Nat := (ps.filter (touchN s P)).foldl (fun a t => max a (t.1 + t.2.length)) (s + P.length)
def joinN (s : Nat) (P : List UInt8) (ps : List Rn) : List UInt8 :=
  (ps.filter (touchN s P)).foldl (fun a t => over a (t.1 - fromN s P ps) t.2) (over (List.replicate (toN s P ps - fromN s P ps) 0) (s - fromN s P ps) P)
def layN (ps : List Rn) (s : Nat) (P : List UInt8) : List Rn := ps.filter (aheadN s) ++ [(fromN s P ps, joinN s P ps)] ++ ps.filter (behindN s P)
theorem fold_min {f : Rn → Nat} : ∀ (T : List Rn) (x : Nat), T.foldl (fun a t => min a (f t)) x ≤ x ∧ (∀ t ∈ T, T.foldl (fun a t => min a (f t)) x ≤ f t) ∧ (T.foldl (fun a t => min a (f t)) x = x ∨ ∃ t ∈ T, T.foldl (fun a t => min a (f t)) x = f t)
  | [], x => ⟨Nat.le_refl _, (fun _ h => by cases h), .inl rfl⟩
  | t :: T, x => by
    obtain ⟨h1, h2, h3⟩ := fold_min (f := f) T (min x (f t))
    simp only [List.foldl_cons]
    refine ⟨by omega, fun u hu => ?_, ?_⟩
    · rcases List.mem_cons.1 hu with rfl | hu
      · omega
      · exact h2 u hu
    · rcases h3 with h3 | ⟨u, hu, h3⟩
      · by_cases hx : x ≤ f t
        · exact .inl (by omega)
        · exact .inr ⟨t, List.mem_cons_self .., by omega⟩
      · exact .inr ⟨u, List.mem_cons_of_mem _ hu, h3⟩
theorem fold_max {f : Rn → Nat} : ∀ (T : List Rn) (x : Nat), x ≤ T.foldl (fun a t => max a (f t)) x ∧ (∀ t ∈ T, f t ≤ T.foldl (fun a t => max a (f t)) x) ∧ (T.foldl (fun a t => max a (f t)) x = x ∨ ∃ t ∈ T, T.foldl (fun a t => max a (f t)) x = f t)
  | [], x => ⟨Nat.le_refl _, (fun _ h => by cases h), .inl rfl⟩
  | t :: T, x => by
    obtain ⟨h1, h2, h3⟩ := fold_max (f := f) T (max x (f t))
    simp only [List.foldl_cons]
    refine ⟨by omega, fun u hu => ?_, ?_⟩
    · rcases List.mem_cons.1 hu with rfl | hu
      · omega
      · exact h2 u hu
    · rcases h3 with h3 | ⟨u, hu, h3⟩
      · by_cases hx : f t ≤ x
        · exact .inl (by omega)
        · exact .inr ⟨t, List.mem_cons_self .., by omega⟩
      · exact .inr ⟨u, List.mem_cons_of_mem _ hu, h3⟩
theorem over_get (l : List UInt8) (k : Nat) (x : List UInt8) (h : k + x.length ≤ l.length) (j : Nat) : (over l k x)[j]? = if k ≤ j ∧ j < k + x.length then x[j - k]? else l[j]? := by
  unfold over
  rcases Nat.lt_or_ge j k with h1 | h1
  · rw [if_neg (by omega), List.append_assoc, List.getElem?_append_left (by rw [List.length_take]; omega), List.getElem?_take, if_pos h1]
  · rw [List.append_assoc, List.getElem?_append_right (by rw [List.length_take]; omega), List.length_take, Nat.min_eq_left (by omega)]
    rcases Nat.lt_or_ge j (k + x.length) with h2 | h2
    · rw [if_pos ⟨h1, h2⟩, List.getElem?_append_left (by omega)]
    · rw [if_neg (by omega), List.getElem?_append_right (by omega), List.getElem?_drop]
      congr 1
      omega
/-- overs that all agree with bytes, and leave none out, give the bytes -/
theorem fold_over (F n : Nat) (g : Nat → UInt8) : ∀ (T : List Rn) (a : List UInt8), a.length = n → (∀ t ∈ T, F ≤ t.1 ∧ t.1 + t.2.length ≤ F + n) → (∀ t ∈ T, ∀ (k : Nat) b, t.2[k]? = some b → g (t.1 + k) = b) →
    (∀ i, F ≤ i → i < F + n → a[i - F]? = some (g i) ∨ ∃ t ∈ T, t.1 ≤ i ∧ i < t.1 + t.2.length) → (T.foldl (fun a t => over a (t.1 - F) t.2) a).length = n ∧ ∀ i, F ≤ i → i < F + n → (T.foldl (fun a t => over a (t.1 - F) t.2) a)[i - F]? = some (g i)
  | [], a, hl, _, _, hc => ⟨hl, fun i h1 h2 => (hc i h1 h2).resolve_right (fun ⟨_, h, _⟩ => by cases h)⟩
  | t :: T, a, hl, hb, hg, hc => by
    have h0 := hb t (List.mem_cons_self ..)
    have hfit : t.1 - F + t.2.length ≤ a.length := by omega
    rw [List.foldl_cons]
    refine fold_over F n g T _ (by rw [over_length _ _ _ hfit, hl]) (fun u hu => hb u (List.mem_cons_of_mem _ hu)) (fun u hu => hg u (List.mem_cons_of_mem _ hu)) fun i h1 h2 => ?_
    rw [over_get _ _ _ hfit]
    by_cases hin : t.1 ≤ i ∧ i < t.1 + t.2.length
    · rw [if_pos (by omega)]
      have hx := List.getElem?_eq_getElem (l := t.2) (i := i - F - (t.1 - F)) (by omega)
      have := hg t (List.mem_cons_self ..) _ _ hx
      rw [show t.1 + (i - F - (t.1 - F)) = i from by omega] at this
      exact .inl (by rw [hx, this])
    · rw [if_neg (by omega)]
      rcases hc i h1 h2 with h | ⟨u, hu, h3⟩
      · exact .inl h
      · rcases List.mem_cons.1 hu with rfl | hu
        · exact absurd h3 hin
        · exact .inr ⟨u, hu, h3⟩
/-- the list with one piece laid under what came -/
structure Under (l m : List Int) (s : Nat) (P : List UInt8) : Prop where
  len : m.length = l.length
  keep : ∀ (i : Nat) c, l[i]? = some c → 0 ≤ c → m[i]? = some c
  new : ∀ (i : Nat) c b, l[i]? = some c → c < 0 → s ≤ i → P[i - s]? = some b → m[i]? = some (b.toNat : Int)
  none : ∀ (i : Nat) c, m[i]? = some c → 0 ≤ c → l[i]? = some c ∨ (s ≤ i ∧ i < s + P.length)
  fit : s + P.length ≤ l.length
theorem lay_runs {l m : List Int} {ps : List Rn} {s : Nat} {P : List UInt8} (h : GRuns l ps) (hu : Under l m s P) (hP : 0 < P.length) : GRuns m (layN ps s P) := by
  obtain ⟨F, hF⟩ : ∃ F, fromN s P ps = F := ⟨_, rfl⟩
  obtain ⟨E, hE⟩ : ∃ E, toN s P ps = E := ⟨_, rfl⟩
  obtain ⟨J, hJ⟩ : ∃ J, joinN s P ps = J := ⟨_, rfl⟩
  obtain ⟨f1, f2, f3⟩ := fold_min (f := fun t => t.1) (ps.filter (touchN s P)) s
  obtain ⟨e1, e2, e3⟩ := fold_max (f := fun t => t.1 + t.2.length) (ps.filter (touchN s P)) (s + P.length)
  have hFd : (ps.filter (touchN s P)).foldl (fun a t => min a t.1) s = F := hF
  have hEd : (ps.filter (touchN s P)).foldl (fun a t => max a (t.1 + t.2.length)) (s + P.length) = E := hE
  rw [hFd] at f1 f2 f3
  rw [hEd] at e1 e2 e3
  have ht : ∀ t, t ∈ ps.filter (touchN s P) ↔ t ∈ ps ∧ t.1 ≤ s + P.length ∧ s ≤ t.1 + t.2.length := fun t => by
    rw [List.mem_filter]
    unfold touchN behindN aheadN
    simp
  have ha : ∀ t, t ∈ ps.filter (aheadN s) ↔ t ∈ ps ∧ t.1 + t.2.length < s := fun t => by
    rw [List.mem_filter]
    unfold aheadN
    simp
  have hbb : ∀ t, t ∈ ps.filter (behindN s P) ↔ t ∈ ps ∧ s + P.length < t.1 := fun t => by
    rw [List.mem_filter]
    unfold behindN
    simp
  have hcl : ∀ t ∈ ps, t.1 + t.2.length ≤ l.length := fun t htp => by
    have hp := h.pos htp
    obtain ⟨b, _, h2⟩ := h.at_ htp (i := t.1 + t.2.length - 1) (by omega) (by omega)
    have := (List.getElem?_eq_some_iff.1 h2).1
    omega
  have hEl : E ≤ l.length := by
    rcases e3 with e3 | ⟨t, ht1, e3⟩
    · have := hu.fit; omega
    · have := hcl t ((ht t).1 ht1).1; omega
  -- what lies there
  have hcovF : ∀ i, F ≤ i → i < E → (i < s ∨ s + P.length ≤ i) → ∃ t ∈ ps.filter (touchN s P), t.1 ≤ i ∧ i < t.1 + t.2.length := fun i h1 h2 h3 => by
    rcases h3 with h3 | h3
    · rcases f3 with f3 | ⟨t, ht1, f3⟩
      · omega
      · exact ⟨t, ht1, by omega, by have := ((ht t).1 ht1).2.2; omega⟩
    · rcases e3 with e3 | ⟨t, ht1, e3⟩
      · omega
      · exact ⟨t, ht1, by have := ((ht t).1 ht1).2.1; omega, by omega⟩
  have hmv : ∀ i, F ≤ i → i < E → ∃ b : UInt8, m[i]? = some (b.toNat : Int) := fun i h1 h2 => by
    obtain ⟨c, hc⟩ : ∃ c, l[i]? = some c := ⟨_, List.getElem?_eq_getElem (by omega)⟩
    rcases Int.lt_or_le c 0 with h0 | h0
    · by_cases hin : s ≤ i ∧ i < s + P.length
      · have hx := List.getElem?_eq_getElem (l := P) (i := i - s) (by omega)
        exact ⟨_, hu.new i c _ hc h0 hin.1 hx⟩
      · obtain ⟨t, ht1, h4, h5⟩ := hcovF i h1 h2 (by omega)
        obtain ⟨b, _, hb⟩ := h.at_ ((ht t).1 ht1).1 h4 h5
        rw [hc] at hb
        injection hb with hb
        omega
    · obtain ⟨t, htp, h4, h5⟩ := h.cov i c hc h0
      obtain ⟨b, _, hb⟩ := h.at_ htp h4 h5
      rw [hc] at hb
      injection hb with hb
      exact ⟨b, by rw [hu.keep i c hc h0, hb]⟩
  have hJc : J.length = E - F ∧ ∀ i, F ≤ i → i < F + (E - F) → J[i - F]? = some (byteOf ((m[i]?).getD 0)) := by
    rw [← hJ]
    unfold joinN
    rw [hF, hE]
    have hfit : s - F + P.length ≤ (List.replicate (E - F) (0 : UInt8)).length := by rw [List.length_replicate]; omega
    refine fold_over F (E - F) (fun i => byteOf ((m[i]?).getD 0)) _ _ (by rw [over_length _ _ _ hfit, List.length_replicate]) (fun t ht1 => ⟨f2 t ht1, by have := e2 t ht1; omega⟩) (fun t ht1 k b hk => ?_) fun i h1 h2 => ?_
    · have hv := h.val t ((ht t).1 ht1).1 k b hk
      simp only [hu.keep _ _ hv (Int.natCast_nonneg _), Option.getD_some, byteOf_nat]
    · rw [over_get _ _ _ hfit]
      by_cases hin : s ≤ i ∧ i < s + P.length
      · rw [if_pos (by omega), show i - F - (s - F) = i - s from by omega]
        have hx := List.getElem?_eq_getElem (l := P) (i := i - s) (by omega)
        obtain ⟨c, hc⟩ : ∃ c, l[i]? = some c := ⟨_, List.getElem?_eq_getElem (by omega)⟩
        rcases Int.lt_or_le c 0 with h0 | h0
        · left
          rw [hx, hu.new i c _ hc h0 hin.1 hx]
          simp only [Option.getD_some, byteOf_nat]
        · right
          obtain ⟨t, htp, h4, h5⟩ := h.cov i c hc h0
          exact ⟨t, (ht t).2 ⟨htp, by omega, by omega⟩, h4, h5⟩
      · exact .inr (hcovF i h1 (by omega) (by omega))
  have hmem : ∀ p, p ∈ layN ps s P ↔ (p ∈ ps ∧ p.1 + p.2.length < s) ∨ p = (F, J) ∨ (p ∈ ps ∧ s + P.length < p.1) := fun p => by
    unfold layN
    rw [hF, hJ, List.mem_append, List.mem_append, ha, hbb, List.mem_singleton, or_assoc]
  refine ⟨?_, fun p hp => ?_, fun p hp k b hk => ?_, fun i c hc h0 => ?_⟩
  · unfold layN
    rw [hF, hJ]
    refine List.pairwise_append.2 ⟨List.pairwise_append.2 ⟨h.gap.filter _, List.pairwise_singleton _ _, fun p hp q hq => ?_⟩, h.gap.filter _, fun p hp q hq => ?_⟩
    · rw [List.mem_singleton] at hq
      subst hq
      obtain ⟨hp1, hp2⟩ := (ha p).1 hp
      show p.1 + p.2.length < F
      rcases f3 with f3 | ⟨t, ht1, f3⟩
      · omega
      · obtain ⟨ht2, ht3, ht4⟩ := (ht t).1 ht1
        rcases gap_two h.gap hp1 ht2 with rfl | h3 | h3 <;> omega
    · obtain ⟨hq1, hq2⟩ := (hbb q).1 hq
      rcases List.mem_append.1 hp with hp | hp
      · obtain ⟨hp1, hp2⟩ := (ha p).1 hp
        omega
      · rw [List.mem_singleton] at hp
        subst hp
        show F + J.length < q.1
        rw [hJc.1, show F + (E - F) = E from by omega]
        rcases e3 with e3 | ⟨t, ht1, e3⟩
        · omega
        · obtain ⟨ht2, ht3, ht4⟩ := (ht t).1 ht1
          rcases gap_two h.gap hq1 ht2 with rfl | h3 | h3 <;> omega
  · rcases (hmem p).1 hp with ⟨h1, _⟩ | rfl | ⟨h1, _⟩
    · exact h.ne p h1
    · exact List.length_pos_iff.1 (by show 0 < J.length; rw [hJc.1]; omega)
    · exact h.ne p h1
  · rcases (hmem p).1 hp with ⟨h1, _⟩ | rfl | ⟨h1, _⟩
    · exact hu.keep _ _ (h.val p h1 k b hk) (Int.natCast_nonneg _)
    · have hk1 := (List.getElem?_eq_some_iff.1 hk).1
      simp only at hk hk1 ⊢
      rw [hJc.1] at hk1
      have h3 := hJc.2 (F + k) (by omega) (by omega)
      rw [show F + k - F = k from by omega, hk] at h3
      injection h3 with h3
      obtain ⟨b2, hb2⟩ := hmv (F + k) (by omega) (by omega)
      rw [hb2] at h3 ⊢
      simp only [Option.getD_some, byteOf_nat] at h3
      rw [h3]
    · exact hu.keep _ _ (h.val p h1 k b hk) (Int.natCast_nonneg _)
  · have hmid : F ≤ i → i < E → ∃ p ∈ layN ps s P, p.1 ≤ i ∧ i < p.1 + p.2.length := fun h1 h2 => ⟨(F, J), (hmem _).2 (.inr (.inl rfl)), h1, by show i < F + J.length; rw [hJc.1]; omega⟩
    rcases hu.none i c hc h0 with h1 | ⟨h1, h2⟩
    · obtain ⟨t, htp, h4, h5⟩ := h.cov i c h1 h0
      by_cases c1 : t.1 + t.2.length < s
      · exact ⟨t, (hmem t).2 (.inl ⟨htp, c1⟩), h4, h5⟩
      · by_cases c2 : s + P.length < t.1
        · exact ⟨t, (hmem t).2 (.inr (.inr ⟨htp, c2⟩)), h4, h5⟩
        · have htm := (ht t).2 ⟨htp, by omega, by omega⟩
          exact hmid (by have := f2 t htm; omega) (by have := e2 t htm; omega)
    · exact hmid (by omega) (by omega)
end Go.Proofs.Ytdgfhcojmfgimaa
