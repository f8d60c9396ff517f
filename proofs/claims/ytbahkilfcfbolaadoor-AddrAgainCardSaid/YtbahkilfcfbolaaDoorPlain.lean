/-
  Which texts are addresses, and whose: the plain mathematics. No program, no condition.
-/
import Derived.Test.YtbahkilfcfbolaaDoorText
import Derived.Test.YtbahkilfcfbolaaDoorWrite
namespace Go.Proofs.YtbahkilfcfbolaaDoor

theorem map_inj_of {f : UInt8 → List UInt8} (hf : ∀ x y, f x = f y → x = y) : ∀ {a b : List UInt8}, a.map f = b.map f → a = b
  | [], [], _ => rfl
  | [], _ :: _, h => by cases h
  | _ :: _, [], h => by cases h
  | x :: a, y :: b, h => by
    simp only [List.map_cons, List.cons.injEq] at h
    rw [hf x y h.1, map_inj_of hf h.2]
theorem no_mark {c : UInt8} (hc : c.toNat < 48 ∨ 57 < c.toNat) (n : Nat) : c ∉ dec n := by
  intro h
  have := of_decide_eq_true (dec_all n c h)
  omega
theorem decs_no {c : UInt8} (hc : c.toNat < 48 ∨ 57 < c.toNat) (a : List UInt8) : ∀ y ∈ a.map (fun c => dec c.toNat), c ∉ y := by
  intro y hy
  obtain ⟨x, _, rfl⟩ := List.mem_map.1 hy
  exact no_mark hc _
theorem ip_parts (a : List UInt8) (ha : a.length = 4) : parts 46 4 (ipT a) = a.map fun c => dec c.toNat := by
  unfold ipT
  have h := decs_no (c := 46) (by decide) a
  cases hm : a.map fun c => dec c.toNat with
  | nil =>
    have := congrArg List.length hm
    simp [ha] at this
  | cons x r =>
    rw [hm] at h
    have := congrArg List.length hm
    simp [ha] at this
    exact parts_of 46 4 x r h (by omega)
theorem ipT_inj {a b : List UInt8} (ha : a.length = 4) (hb : b.length = 4) (h : ipT a = ipT b) : a = b := by
  have h1 := congrArg (parts 46 4) h
  rw [ip_parts a ha, ip_parts b hb] at h1
  exact map_inj_of (fun x y e => UInt8.toNat_inj.1 (dec_inj e)) h1
open Classical in
/-- the host's address of a text, and the error -/
noncomputable def ipOf (l : List UInt8) : List UInt8 × Int := if h : ∃ a : List UInt8, a.length = 4 ∧ ipT a = l then (h.choose, 0) else ([0, 0, 0, 0], 7)
theorem ipOf_hit (a : List UInt8) (ha : a.length = 4) : ipOf (ipT a) = (a, 0) := by
  unfold ipOf
  have h : ∃ b : List UInt8, b.length = 4 ∧ ipT b = ipT a := ⟨a, ha, rfl⟩
  rw [dif_pos h, ipT_inj h.choose_spec.1 ha h.choose_spec.2]
theorem ipOf_miss (l : List UInt8) (h : ∀ a : List UInt8, a.length = 4 → ipT a ≠ l) : ipOf l = ([0, 0, 0, 0], 7) := by
  unfold ipOf
  rw [dif_neg]
  rintro ⟨a, h1, h2⟩
  exact h a h1 h2
theorem ipOf_cases (l : List UInt8) : (∃ a : List UInt8, a.length = 4 ∧ l = ipT a ∧ ipOf l = (a, 0)) ∨ (ipOf l = ([0, 0, 0, 0], 7) ∧ ∀ a : List UInt8, a.length = 4 → ipT a ≠ l) := by
  by_cases h : ∃ a : List UInt8, a.length = 4 ∧ ipT a = l
  · obtain ⟨a, h1, rfl⟩ := h
    exact .inl ⟨a, h1, rfl, ipOf_hit a h1⟩
  · have h2 : ∀ a : List UInt8, a.length = 4 → ipT a ≠ l := fun a h1 e => h ⟨a, h1, e⟩
    exact .inr ⟨ipOf_miss l h2, h2⟩

theorem join_no {c d : UInt8} (hcd : c ≠ d) : ∀ (xs : List (List UInt8)), (∀ y ∈ xs, c ∉ y) → c ∉ Lib.join xs [d]
  | [], _ => by simp [Lib.join_nil]
  | [x], h => by rw [Lib.join_one]; exact h x (by simp)
  | x :: y :: r, h => by
    have ih := join_no hcd (y :: r) fun z hz => h z (List.mem_cons_of_mem _ hz)
    rw [join_two]
    simp only [List.mem_append, List.mem_singleton, not_or]
    exact ⟨h x (by simp), hcd, ih⟩
theorem ipT_no (a : List UInt8) : (58 : UInt8) ∉ ipT a := join_no (by decide) _ (decs_no (by decide) a)
theorem adT_inj {a b : List UInt8} {p q : Nat} (ha : a.length = 4) (hb : b.length = 4) (h : adT a p = adT b q) : a = b ∧ p = q := by
  unfold adT at h
  obtain ⟨h1, h2⟩ := mark_split (ipT_no a) (ipT_no b) h
  exact ⟨ipT_inj ha hb h1, dec_inj h2⟩
open Classical in
/-- the address with a port of a text, and the error -/
noncomputable def adOf (l : List UInt8) : (List UInt8 × Nat) × Int := if h : ∃ x : List UInt8 × Nat, x.1.length = 4 ∧ x.2 < 65536 ∧ adT x.1 x.2 = l then (h.choose, 0) else (([0, 0, 0, 0], 0), 7)
theorem adOf_hit (a : List UInt8) (p : Nat) (ha : a.length = 4) (hp : p < 65536) : adOf (adT a p) = ((a, p), 0) := by
  unfold adOf
  have h : ∃ x : List UInt8 × Nat, x.1.length = 4 ∧ x.2 < 65536 ∧ adT x.1 x.2 = adT a p := ⟨(a, p), ha, hp, rfl⟩
  obtain ⟨h1, h2⟩ := adT_inj h.choose_spec.1 ha h.choose_spec.2.2
  rw [dif_pos h]
  exact congrArg (·, (0 : Int)) (Prod.ext h1 h2)
theorem adOf_miss (l : List UInt8) (h : ∀ (a : List UInt8) (p : Nat), a.length = 4 → p < 65536 → adT a p ≠ l) : adOf l = (([0, 0, 0, 0], 0), 7) := by
  unfold adOf
  rw [dif_neg]
  rintro ⟨x, h1, h2, h3⟩
  exact h _ _ h1 h2 h3
theorem adOf_cases (l : List UInt8) : (∃ (a : List UInt8) (p : Nat), a.length = 4 ∧ p < 65536 ∧ l = adT a p ∧ adOf l = ((a, p), 0)) ∨ (adOf l = (([0, 0, 0, 0], 0), 7) ∧ ∀ (a : List UInt8) (p : Nat), a.length = 4 → p < 65536 → adT a p ≠ l) := by
  by_cases h : ∃ (a : List UInt8) (p : Nat), a.length = 4 ∧ p < 65536 ∧ adT a p = l
  · obtain ⟨a, p, h1, h2, rfl⟩ := h
    exact .inl ⟨a, p, h1, h2, rfl, adOf_hit a p h1 h2⟩
  · have h2 : ∀ (a : List UInt8) (p : Nat), a.length = 4 → p < 65536 → adT a p ≠ l := fun a p h1 h2 e => h ⟨a, p, h1, h2, e⟩
    exact .inr ⟨adOf_miss l h2, h2⟩

theorem dig_range : ∀ q : Fin 16, 48 ≤ (dig q.val).toNat ∧ (dig q.val).toNat ≠ 58 := by decide +kernel
theorem dig_inj_all : ∀ p q : Fin 16, dig p.val = dig q.val → p = q := by decide +kernel
theorem hex1 (c : UInt8) : hexL [c] = [dig (c.toNat / 16), dig (c.toNat % 16)] := rfl
theorem hex1_no (c : UInt8) : (58 : UInt8) ∉ hexL [c] := by
  have hc := c.toNat_lt
  have h1 := (dig_range ⟨c.toNat / 16, by omega⟩).2
  have h2 := (dig_range ⟨c.toNat % 16, by omega⟩).2
  rw [hex1]
  simp only [List.mem_cons, List.not_mem_nil, or_false, not_or]
  exact ⟨fun e => h1 (by rw [← e]; rfl), fun e => h2 (by rw [← e]; rfl)⟩
theorem hex1_inj (x y : UInt8) (h : hexL [x] = hexL [y]) : x = y := by
  rw [hex1, hex1] at h
  simp only [List.cons.injEq, and_true] at h
  have hx := x.toNat_lt
  have hy := y.toNat_lt
  have h1 := congrArg Fin.val (dig_inj_all ⟨x.toNat / 16, by omega⟩ ⟨y.toNat / 16, by omega⟩ h.1)
  have h2 := congrArg Fin.val (dig_inj_all ⟨x.toNat % 16, by omega⟩ ⟨y.toNat % 16, by omega⟩ h.2)
  refine UInt8.toNat_inj.1 ?_
  simp only at h1 h2
  omega
theorem hexs_no (a : List UInt8) : ∀ y ∈ a.map (fun c => hexL [c]), (58 : UInt8) ∉ y := by
  intro y hy
  obtain ⟨x, _, rfl⟩ := List.mem_map.1 hy
  exact hex1_no x
theorem mac_parts (a : List UInt8) (ha : a.length = 6) : parts 58 6 (macT a) = a.map fun c => hexL [c] := by
  unfold macT
  have h := hexs_no a
  cases hm : a.map fun c => hexL [c] with
  | nil =>
    have := congrArg List.length hm
    simp [ha] at this
  | cons x r =>
    rw [hm] at h
    have := congrArg List.length hm
    simp [ha] at this
    exact parts_of 58 6 x r h (by omega)
theorem macT_inj {a b : List UInt8} (ha : a.length = 6) (hb : b.length = 6) (h : macT a = macT b) : a = b := by
  have h1 := congrArg (parts 58 6) h
  rw [mac_parts a ha, mac_parts b hb] at h1
  exact map_inj_of hex1_inj h1
open Classical in
/-- the card's address of a text, and the error -/
noncomputable def macOf (l : List UInt8) : List UInt8 × Int := if h : ∃ a : List UInt8, a.length = 6 ∧ macT a = l then (h.choose, 0) else ([0, 0, 0, 0, 0, 0], 7)
theorem macOf_hit (a : List UInt8) (ha : a.length = 6) : macOf (macT a) = (a, 0) := by
  unfold macOf
  have h : ∃ b : List UInt8, b.length = 6 ∧ macT b = macT a := ⟨a, ha, rfl⟩
  rw [dif_pos h, macT_inj h.choose_spec.1 ha h.choose_spec.2]
theorem macOf_miss (l : List UInt8) (h : ∀ a : List UInt8, a.length = 6 → macT a ≠ l) : macOf l = ([0, 0, 0, 0, 0, 0], 7) := by
  unfold macOf
  rw [dif_neg]
  rintro ⟨a, h1, h2⟩
  exact h a h1 h2
theorem macOf_cases (l : List UInt8) : (∃ a : List UInt8, a.length = 6 ∧ l = macT a ∧ macOf l = (a, 0)) ∨ (macOf l = ([0, 0, 0, 0, 0, 0], 7) ∧ ∀ a : List UInt8, a.length = 6 → macT a ≠ l) := by
  by_cases h : ∃ a : List UInt8, a.length = 6 ∧ macT a = l
  · obtain ⟨a, h1, rfl⟩ := h
    exact .inl ⟨a, h1, rfl, macOf_hit a h1⟩
  · have h2 : ∀ a : List UInt8, a.length = 6 → macT a ≠ l := fun a h1 e => h ⟨a, h1, e⟩
    exact .inr ⟨macOf_miss l h2, h2⟩
end Go.Proofs.YtbahkilfcfbolaaDoor
