/-
  heap.Tell. Every right heap, every page. No condition beyond that.
-/
import Derived.Test.YtagajijjcjfopaaHearH
namespace Go.Proofs.Ytagajijjcjfopaa
open Go.RowKit

def pageB (B : List UInt8) (k : Nat) : List UInt8 := (B.drop (64 * k)).take 64
theorem gro_set {a b : World} {g : Nat} (h : Gro (· = g) a b) {old cs : Array Value} {t : TypeId} {fr : Nat × Nat} (hb : b.heap[g]? = some (.cells old t fr)) (hs : old.size = cs.size) : Gro (· = g) a (b.setRow g cs) := by
  refine ⟨h.os, h.tape, h.output, by simp [World.setRow]; exact h.size, fun k hk hx => (setRow_other b g k cs hx).trans (h.block k hk hx), fun k c0 t0 f0 hk => ?_⟩
  obtain ⟨c1, e1, e2⟩ := h.shape k c0 t0 f0 hk
  by_cases hkg : k = g
  · subst hkg
    rw [hb] at e1
    injection e1 with e1
    injection e1 with e3 e4 e5
    subst e3 e4 e5
    exact ⟨cs, setRow_heap _ _ _ _ _ _ hb, by omega⟩
  · exact ⟨c1, (setRow_other b g k cs hkg).trans e1, e2⟩
theorem ownk_gro {a b : World} {N base k n : Nat} {e : TypeId} {v : Value} {xs : List Value} (h : a.ownsRow base e k v n xs) (hg : Gro (· = N) a b) (hN : N < base) : b.ownsRow base e k v n xs := by
  refine ⟨h.1, ?_⟩
  rcases h.2 with h2 | ⟨g, cap, cur, rfl, h1, h2, h3⟩
  · exact .inl h2
  · exact .inr ⟨g, cap, cur, rfl, h1, (hg.block g (row_lt h2) (by omega)).trans h2, h3⟩
theorem ownr_other {base N k n : Nat} {e : TypeId} {xs : List Value} (h : N < base) : StableG (fun x y => ∀ j, j ≠ N → y.heap[j]? = x.heap[j]?) (OwnR base e k n xs) := fun u x y hxy ho => by
  refine ⟨ho.1, ?_⟩
  rcases ho.2 with h2 | ⟨g, cap, cur, rfl, h1, h2, h3⟩
  · exact .inl h2
  · exact .inr ⟨g, cap, cur, rfl, h1, (hxy g (by omega)).trans h2, h3⟩
/-- what Tell answers: pages, bytes, error -/
def tellO (B : List UInt8) (D : List Bool) (p : Int) : List Bool × List UInt8 × Int :=
  if 0 ≤ p ∧ p < (D.length : Int) then (D.set p.toNat false, pageB B p.toNat, 0) else (D, [], 2)
def TellPost (w : World) (B : List UInt8) (L : List Bk) (r : List Bool × List UInt8 × Int) (e : Ending) (w' : World) : Prop :=
  ∃ v' u, e = .returned (.tuple #[v', u, .int .i64 r.2.2]) ∧ Hp w.heap.size B L r.1 v' w' ∧ w'.ownsRow w.heap.size 5 1 u r.2.1.length (cells r.2.1) ∧ Below w.heap.size w w'

set_option maxRecDepth 100000 in
set_option maxHeartbeats 1000000 in
theorem tell_any {B : List UInt8} {L : List Bk} {D : List Bool} {base : Nat} {v : Value} (p : Int) (w : World) (hv : Hp base B L D v w) (hR : RightH B L D) (hp : I64 p) :
    Calls Try.prog 23 #[v, .int .i64 p] w (TellPost w B L (tellO B D p)) := by
  unfold I64 at hp
  unfold TellPost
  obtain ⟨v1, v2, v3, rfl, hv⟩ := hv
  have hb := hR.bytes
  have hm := hR.many
  have hd := hR.most
  have HRR := Lib.hid hR
  obtain ⟨N, hN⟩ : ∃ N, w.heap.size = N := ⟨_, rfl⟩
  obtain ⟨w1, hw1⟩ : ∃ w1, (w.alloc (.cells #[v1, v2, v3] 29)).alloc (.cells #[.slice none 0 0, .slice none 0 0, .slice none 0 0] 29) = w1 := ⟨_, rfl⟩
  rw [hN]
  have HB1 : Hid (Below N w w1) := by rw [← hw1]; exact ((Below.refl _ _).alloc (by omega) _).alloc (by simp; omega) _
  have HZ1 : Hid (w1.heap.size = N + 2) := by rw [← hw1]; show _ = _; simp [hN]
  have HG0 : Hid (w1.heap[N]? = some (.cells #[v1, v2, v3] 29 (0, 0))) := by rw [← hw1, ← hN]; exact old_alloc (heap_alloc_new w _) _
  have HG1 : Hid (w1.heap[N + 1]? = some (.cells #[.slice none 0 0, .slice none 0 0, .slice none 0 0] 29 (0, 0))) := by
    rw [← hw1, ← hN]
    have := heap_alloc_new (w.alloc (.cells #[v1, v2, v3] 29)) (.cells #[.slice none 0 0, .slice none 0 0, .slice none 0 0] 29)
    simp only [World.size_alloc] at this
    exact this
  have HC := Lib.hid (clone_any B L D base (.agg #[v1, v2, v3]) w1 (by rw [← hw1]; exact (hv.shut.alloc _).alloc _) (by omega) (by omega) (by omega))
  have HH1 := Lib.hid hv.ones
  obtain ⟨cv0, cv1, cv2⟩ := three_cells HG0.out
  clear hv hR
  go_enter Try.func23, Try.ntmps23
  go_wp2_with fail
  refine HC.out.mono ?_
  rintro e w2 ⟨v', rfl, ⟨y1, y2, y3, rfl, hp2⟩, hb2⟩
  have hx2 := old_below HG0.out hb2 (row_lt HG0.out)
  have hg1 := old_below HG1.out hb2 (row_lt HG1.out)
  have HX2 := Lib.hid hx2
  have HO2 := Lib.hid hp2.ones
  rw [HZ1.out] at hp2
  have HP : Hid (HpV (N + 2) B L D (w2.setRow N #[y1, y2, y3]) y1 y2 y3) := hp2.other hx2 (by decide) (by decide) (by decide) (setRow_cells _ _ _)
  have HX := Lib.hid (setRow_heap w2 N _ #[y1, y2, y3] _ _ hx2)
  have HY1 := Lib.hid ((setRow_other w2 N (N + 1) #[y1, y2, y3] (by omega)).trans hg1)
  have HB3 : Hid (Below N w (w2.setRow N #[y1, y2, y3])) := below_setRow (HB1.out.trans (hb2.mono (by have := HZ1.out; omega))) (Nat.le_refl _) _
  clear hb2 hp2 hx2 hg1 hw1 cv0 cv1 cv2 HC HG0 HG1
  go_upto_region 2 with (refine wpList_store_row rfl 29 _ _ rfl N #[y1, y2, y3] rfl rfl 29 _ HX2.out (by kernel_rfl) rfl HO2.out ?_)
  generalize w2.setRow N #[y1, y2, y3] = w3 at HP HX HY1 HB3 ⊢
  clear HX2 HO2 HH1
  have HZ3 : Hid (N + 2 ≤ w3.heap.size) := by have := row_lt HY1.out; show _ ≤ _; omega
  obtain ⟨A1, c1, A2, c2, A3, c3, rfl, rfl, rfl⟩ := HP.out.forms
  obtain ⟨nb, hnb⟩ : ∃ k, B.length = k := ⟨_, rfl⟩
  obtain ⟨nk, hnk⟩ : ∃ k, L.length = k := ⟨_, rfl⟩
  obtain ⟨nd, hnd⟩ : ∃ k, D.length = k := ⟨_, rfl⟩
  rw [hnb, hnk, hnd] at HX HP
  rw [hnb] at hb
  rw [hnk] at hm
  rw [hnd] at hd
  have HNK := Lib.hid hnk
  have HNB := Lib.hid hnb
  have HND := Lib.hid hnd
  have HLEN : Hid (nb = 64 * nd ∧ 1 ≤ nd) := by
    have h1 := HRR.out.len
    have h2 := HRR.out.one
    rw [HNB.out, HND.out] at h1
    rw [HND.out] at h2
    exact ⟨h1, h2⟩
  clear hnk hnb hnd
  have HHS := Lib.hid (has_any (v := .agg #[.slice A1 nb c1, .slice A2 nk c2, .slice A3 nd c3]) p w3 ⟨_, _, _, rfl, HP.out⟩ HRR.out)
  rw [HND.out] at HHS
  by_cases q1 : 0 ≤ p ∧ p < (nd : Int)
  · rw [decide_eq_true q1] at HHS
    obtain ⟨k, rfl⟩ : ∃ k : Nat, p = (k : Int) := ⟨p.toNat, by omega⟩
    have hk : k < nd := by omega
    have HV : Hid (tellO B D (k : Int) = (D.set k false, pageB B k, 0)) := by show _ = _; unfold tellO; rw [HND.out, if_pos q1, Int.toNat_natCast]
    clear q1
    go_wp2_with (refine wpList_load_row rfl 29 _ rfl N rfl 29 #[.slice A1 nb c1, .slice A2 nk c2, .slice A3 nd c3] (0, 0) _ HX.out Try.underlying29 rfl (by kernel_rfl) ?_)
    refine HHS.out.mono ?_
    rintro e w4 ⟨rfl, hb4⟩
    have HB4 := Lib.hid (HB3.out.trans (hb4.mono (Nat.le_trans (Nat.le_add_right _ _) HZ3.out)))
    have HX4 := Lib.hid (old_below HX.out hb4 (row_lt HX.out))
    have HY4 := Lib.hid (old_below HY1.out hb4 (row_lt HY1.out))
    have HP4 := Lib.hid (HP.out.below hb4)
    have HZ4 : Hid (N + 2 ≤ w4.heap.size) := by have := row_lt HY4.out; show _ ≤ _; omega
    clear hb4
    have hown3 := HP4.out.2.2
    rw [HND.out] at hown3
    obtain ⟨g3, c', cur', e3, -⟩ := ownk_some hown3 (by omega)
    injection e3 with e1 _ e3
    subst e1 e3
    obtain ⟨cur, hg3, hlo3, hnc3, hcm3, -, -⟩ := own_at0 hown3 (by omega)
    obtain ⟨u, hu⟩ : ∃ u, D[k]? = some u := ⟨_, List.getElem?_eq_getElem (by rw [HND.out]; exact hk)⟩
    have hcell : w4.cell? ⟨g3, k, none⟩ = some (.bool u) := own_cell hown3 (by simp [tfs, hu])
    have hfz := frozen_of_row w4 g3 k cur _ hg3
    obtain ⟨w5, hw5⟩ : ∃ w5, w4.setCell ⟨g3, k, none⟩ (.bool false) = w5 := ⟨_, rfl⟩
    have hkeep : ∀ j, j ≠ g3 → w5.heap[j]? = w4.heap[j]? := fun j hj => by rw [← hw5]; exact heap_setCell_other _ _ _ _ hj
    have HX5 : Hid (w5.heap[N]? = some (.cells #[.slice A1 nb c1, .slice A2 nk c2, .slice (some ⟨g3, 0, none⟩) nd c3] 29 (0, 0))) := (hkeep N (by omega)).trans HX4.out
    have HY5 : Hid (w5.heap[N + 1]? = some (.cells #[.slice none 0 0, .slice none 0 0, .slice none 0 0] 29 (0, 0))) := (hkeep (N + 1) (by omega)).trans HY4.out
    have HP5 : Hid (HpV (N + 2) B L (D.set k false) w5 (.slice A1 nb c1) (.slice A2 nk c2) (.slice (some ⟨g3, 0, none⟩) nd c3)) := by
      refine ⟨ownk_other HP4.out.1 hg3 (by decide) hkeep, ownk_other HP4.out.2.1 hg3 (by decide) hkeep, ?_⟩
      have := own_put hown3 hk (u := .bool false) rfl
      rw [tfs_set, hw5] at this
      rw [List.length_set, HND.out]
      exact this
    have HB5 : Hid (Below N w w5) := by rw [← hw5]; exact HB4.out.setCell (by simp only; omega) _
    have HZ5 : Hid (N + 2 ≤ w5.heap.size) := by have := row_lt HY5.out; show _ ≤ _; omega
    obtain ⟨x0, x1, x2⟩ := three_cells HX4.out
    clear hg3 hu hown3
    go_wp2_with (refine wpList_load_row rfl 29 _ rfl N rfl 29 #[.slice A1 nb c1, .slice A2 nk c2, .slice (some ⟨g3, 0, none⟩) nd c3] (0, 0) _ HX4.out Try.underlying29 rfl (by kernel_rfl) ?_)
    clear hcell hfz x0 x1 x2 hw5 hkeep
    have HVW : Hid (∀ w6, Calls Try.prog 45 #[.agg #[.slice A1 nb c1, .slice A2 nk c2, .slice (some ⟨g3, 0, none⟩) nd c3], .int .i64 (k : Int)] w6 fun e w' => e = .returned (.slice (A1.map (·.add (64 * k))) 64 (c1 - 64 * k)) ∧ Below w6.heap.size w6 w') := fun w6 => by
      refine view_any A1 (.slice A2 nk c2) (.slice (some ⟨g3, 0, none⟩) nd c3) nb c1 k w6 rfl rfl ?_ ?_ hb
      · obtain ⟨A', c', e, h1, _⟩ := ownk_form HP5.out.1
        injection e with _ e2 e3
        omega
      · have := HLEN.out
        omega
    have HCB : Hid (∀ w6, Gro (· = N + 1) w5 w6 → Calls Try.prog 33 #[.slice (A1.map (·.add (64 * k))) 64 (c1 - 64 * k)] w6 fun e w' => ∃ v, e = .returned v ∧ w'.ownsRow w6.heap.size 5 1 v 64 (cells (pageB B k)) ∧ Below w6.heap.size w6 w') := fun w6 h6 => by
      have h51 := HP5.out.1
      rw [HNB.out] at h51
      obtain ⟨A', c', e, h1, _, hA⟩ := ownk_form h51
      injection e with e1 e2 e3
      subst e1 e3
      have hrd : Rd w6 (N + 2) w5.heap.size A1 (cells B) := (ownk_rd h51).keep fun q hq1 hq2 => World.cell?_of_block (h6.block _ hq2 (by omega))
      refine cloneb_any _ _ 64 _ (N + 2) w5.heap.size w6 ?_ h6.size (by rw [cells_length]; unfold pageB; rw [List.length_take, List.length_drop, HNB.out]; have := HLEN.out; omega) (cells_one _) (fun hh => by have := hA (by simpa using hh); omega) (by omega)
      unfold pageB
      rw [← cells_take, ← cells_drop]
      exact (hrd.drop _).take _
    apply wp_region_relyG [5] (fun Ld w' => Gro (· = N + 1) w5 w' ∧ w'.heap[N + 1]? = some (.cells (if Ld 5 then #[.slice A1 nb c1, .slice A2 nk c2, .slice (some ⟨g3, 0, none⟩) nd c3] else #[.slice none 0 0, .slice none 0 0, .slice none 0 0]) 29 (0, 0))) (RL [Is (.agg #[.slice A1 nb c1, .slice A2 nk c2, .slice (some ⟨g3, 0, none⟩) nd c3]), Is (.agg #[.slice A1 nb c1, .slice A2 nk c2, .slice (some ⟨g3, 0, none⟩) nd c3]), Is _, Is (.slice (A1.map (·.add (64 * k))) 64 (c1 - 64 * k)), OwnR w5.heap.size 5 1 64 (cells (pageB B k)), Any, OwnR w5.heap.size 5 1 64 (cells (pageB B k)), Is (.int .i64 0)]) [false, false, false, false, false, true, true, false, false, false, false, false, false, false, false, false, false, false, true, true, true, true, true]
    · kernel_rfl
    · kernel_rfl
    · kernel_rfl
    · refine ⟨?_, ?_, ?_, ?_, ?_, ?_, ?_, ?_, trivial⟩
      · intro Ld ev w' hC hL hx K hK
        have e2 : ev (.tmp 2) = _ := hx.base 2 (by kernel_rfl)
        have HK := Lib.hid hK
        have HC := Lib.hid hC
        have HL := Lib.hid hL
        have HX := Lib.hid hx
        have hc := hx.cst
        skip
        clear hx hK hC hL
        have hx := (HC.out.1.block N (row_lt HX5.out) (by omega)).trans HX5.out
        have q1 : ev (.tmp 2) = .pointer (some ⟨N, 0, none⟩) := e2
        have hld := run_loadVar_row (P := Try.prog) w' N 29 29 #[.slice A1 nb c1, .slice A2 nk c2, .slice (some ⟨g3, 0, none⟩) nd c3] (0, 0) _ hx Try.underlying29 rfl (by kernel_rfl)
        unfold Run
        rw [run_loadE 29 _ rfl q1 hld]
        exact HK.out _ _ (.inl ⟨Below.refl _ _, by decide⟩) rfl
      · intro Ld ev w' hC hL hx K hK
        have e2 : ev (.tmp 2) = _ := hx.base 2 (by kernel_rfl)
        have HK := Lib.hid hK
        have HC := Lib.hid hC
        have HL := Lib.hid hL
        have HX := Lib.hid hx
        have hc := hx.cst
        skip
        clear hx hK hC hL
        have hx := (HC.out.1.block N (row_lt HX5.out) (by omega)).trans HX5.out
        have q1 : ev (.tmp 2) = .pointer (some ⟨N, 0, none⟩) := e2
        have hld := run_loadVar_row (P := Try.prog) w' N 29 29 #[.slice A1 nb c1, .slice A2 nk c2, .slice (some ⟨g3, 0, none⟩) nd c3] (0, 0) _ hx Try.underlying29 rfl (by kernel_rfl)
        unfold Run
        rw [run_loadE 29 _ rfl q1 hld]
        exact HK.out _ _ (.inl ⟨Below.refl _ _, by decide⟩) rfl
      · intro Ld ev w' hC hL hx K hK
        have e1 : ev (.tmp 1) = _ := hx.base 1 (by kernel_rfl)
        have HK := Lib.hid hK
        have HC := Lib.hid hC
        have HL := Lib.hid hL
        have HX := Lib.hid hx
        have hc := hx.cst
        skip
        clear hx hK hC hL
        unfold Run
        simp [execOp, Upon, go_sem, *]
        exact HK.out _ _ (.inl ⟨Below.refl _ _, by decide⟩) rfl
      · intro Ld ev w' hC hL hx K hK
        have e19 := hx.held 1 _ rfl (by kernel_rfl)
        have e20 := hx.held 2 _ rfl (by kernel_rfl)
        change ev (.tmp 19) = _ at e19
        change ev (.tmp 20) = _ at e20
        have HK := Lib.hid hK
        have HC := Lib.hid hC
        have HL := Lib.hid hL
        have HX := Lib.hid hx
        have hc := hx.cst
        have hf := hx.fn
        clear hx hK hC hL
        unfold Run
        simp [execOp, Upon, go_sem, *]
        refine (HVW.out w').mono ?_
        rintro e w9 ⟨rfl, hb9⟩
        exact ⟨_, rfl, HK.out _ _ (.inl ⟨hb9, by decide⟩) rfl⟩
      · intro Ld ev w' hC hL hx K hK
        have e21 := hx.held 3 _ rfl (by kernel_rfl)
        change ev (.tmp 21) = _ at e21
        have HK := Lib.hid hK
        have HC := Lib.hid hC
        have HL := Lib.hid hL
        have HX := Lib.hid hx
        have hc := hx.cst
        have hf := hx.fn
        clear hx hK hC hL
        have q21 : ev (.tmp 21) = .slice (A1.map (·.add (64 * k))) 64 (c1 - 64 * k) := e21
        have HCL := Lib.hid (HCB.out w' HC.out.1)
        unfold Run
        simp [execOp, Upon, go_sem, *]
        refine HCL.out.mono ?_
        rintro e w9 ⟨u9, rfl, ho9, hb9⟩
        exact ⟨_, rfl, HK.out _ _ (.inl ⟨hb9, by decide⟩) (ownk_base ho9 HC.out.1.size)⟩
      · intro Ld ev w' hC hL hx K hK
        have e4 : ev (.tmp 4) = _ := hx.base 4 (by kernel_rfl)
        have e18 := hx.held 0 _ rfl (by kernel_rfl)
        change ev (.tmp 18) = _ at e18
        have HK := Lib.hid hK
        have HC := Lib.hid hC
        have HL := Lib.hid hL
        have HX := Lib.hid hx
        have hc := hx.cst
        skip
        clear hx hK hC hL
        have q18 : ev (.tmp 18) = .agg #[.slice A1 nb c1, .slice A2 nk c2, .slice (some ⟨g3, 0, none⟩) nd c3] := e18
        have hC := HC.out.2
        rw [HL.out] at hC
        have HC2 := Lib.hid hC
        have hsv := run_storeVar_row (P := Try.prog) w' (N + 1) 29 29 _ #[.slice A1 nb c1, .slice A2 nk c2, .slice (some ⟨g3, 0, none⟩) nd c3] HC2.out (by kernel_rfl) rfl HP5.out.ones
        clear hC
        unfold Run
        rw [run_storeE 29 _ _ rfl e4 q18 hsv]
        refine HK.out _ _ (.inr ⟨⟨gro_set HC.out.1 HC2.out rfl, setRow_heap _ _ _ _ _ _ HC2.out⟩, fun j hj hlj u hr => ?_⟩) trivial
        refine rl_sg (S := fun x y => ∀ j, j ≠ N + 1 → y.heap[j]? = x.heap[j]?) (ex := [5]) 0 (by exact ⟨.inr (is_sg _ _), .inr (is_sg _ _), .inr (is_sg _ _), .inr (is_sg _ _), .inr (ownr_other (by have := HZ5.out; omega)), .inl rfl, .inr (ownr_other (by have := HZ5.out; omega)), .inr (is_sg _ _), trivial⟩) j u _ _ ?_ (setRow_cells _ _ _) hr
        simp at hj ⊢
        omega
      · intro Ld ev w' hC hL hx K hK
        have e22 := hx.held 4 _ rfl (by kernel_rfl)
        change (OwnR w5.heap.size 5 1 64 (cells (pageB B k)) : Pred) (ev (.tmp 22)) w' at e22
        have HK := Lib.hid hK
        have HC := Lib.hid hC
        have HL := Lib.hid hL
        have HX := Lib.hid hx
        have hc := hx.cst
        skip
        clear hx hK hC hL
        have E22 := Lib.hid e22
        clear e22
        unfold Run
        simp [execOp, Upon, go_sem, *]
        exact HK.out _ _ (.inl ⟨Below.refl _ _, by decide⟩) E22.out
      · intro Ld ev w' hC hL hx K hK
        have HK := Lib.hid hK
        have HC := Lib.hid hC
        have HL := Lib.hid hL
        have HX := Lib.hid hx
        have hc := hx.cst
        skip
        clear hx hK hC hL
        unfold Run
        simp [execOp, Upon, go_sem, *]
        exact HK.out _ _ (.inl ⟨Below.refl _ _, by decide⟩) rfl
    · exact rl_mono ⟨is_mono _, is_mono _, is_mono _, is_mono _, ownr_mono _ _ _ _ _, any_mono, ownr_mono _ _ _ _ _, is_mono _, trivial⟩
    · exact fun L1 L2 w1 he h => ⟨h.1, by rw [← he 5 (by simp)]; exact h.2⟩
    · exact fun L1 w1 w2 hb h => ⟨h.1.trans (Gro.of hb), (hb.block _ (row_lt h.2)).trans h.2⟩
    · exact ⟨Gro.refl _, HY5.out⟩
    · simp
    intro us wr hG hH
    obtain ⟨-, -, -, -, -, -, h6, h7, -⟩ := hH
    simp only [fillM]
    change (OwnR w5.heap.size 5 1 64 (cells (pageB B k)) : Pred) (us 5) wr at h6
    change us 6 = _ at h7
    rw [h7]
    clear h7
    generalize us 18 = v18
    generalize us 19 = v19
    generalize us 20 = v20
    generalize us 21 = v21
    generalize us 22 = v22
    generalize us 5 = v5 at h6 ⊢
    obtain ⟨hg1, hg2⟩ := hG
    have HRO := Lib.hid h6
    have HGR := Lib.hid hg1
    have HN2 := Lib.hid hg2
    clear h6 hg1 hg2
    go_wp2
    refine ret_three (g := N + 1) rfl rfl HN2.out Try.underlying29 rfl (by kernel_rfl) rfl ?_
    rw [HV.out]
    refine ⟨_, _, rfl, ⟨_, _, _, rfl, ?_⟩, ?_, HB5.out.trans ⟨HGR.out.os, HGR.out.tape, HGR.out.output, HGR.out.size, fun b hb => HGR.out.block b (by have := HZ5.out; omega) (by omega)⟩⟩
    · exact HpV.wide (base := N + 2) ⟨ownk_gro HP5.out.1 HGR.out (by omega), ownk_gro HP5.out.2.1 HGR.out (by omega), ownk_gro HP5.out.2.2 HGR.out (by omega)⟩ (by omega)
    · rw [show (pageB B k).length = 64 from by unfold pageB; rw [List.length_take, List.length_drop, HNB.out]; have := HLEN.out; omega]
      exact ownk_base HRO.out (by have := HZ5.out; omega)
  · have HV : Hid (tellO B D p = (D, [], 2)) := by show _ = _; unfold tellO; rw [HND.out, if_neg q1]
    rw [decide_eq_false q1] at HHS
    clear q1
    go_wp2_with (refine wpList_load_row rfl 29 _ rfl N rfl 29 #[.slice A1 nb c1, .slice A2 nk c2, .slice A3 nd c3] (0, 0) _ HX.out Try.underlying29 rfl (by kernel_rfl) ?_)
    refine HHS.out.mono ?_
    rintro e w4 ⟨rfl, hb4⟩
    have HB4 := Lib.hid (HB3.out.trans (hb4.mono (Nat.le_trans (Nat.le_add_right _ _) HZ3.out)))
    have HX4 := Lib.hid (old_below HX.out hb4 (row_lt HX.out))
    have HY4 := Lib.hid (old_below HY1.out hb4 (row_lt HY1.out))
    have HP4 := Lib.hid (HP.out.below hb4)
    have HZ4 : Hid (N + 2 ≤ w4.heap.size) := by have := row_lt HY4.out; show _ ≤ _; omega
    clear hb4
    go_wp2_with (first | refine wpList_load_row rfl 29 _ rfl N rfl 29 #[.slice A1 nb c1, .slice A2 nk c2, .slice A3 nd c3] (0, 0) _ HX4.out Try.underlying29 rfl (by kernel_rfl) ?_ | refine wpList_store_row rfl 29 _ _ rfl (N + 1) #[.slice A1 nb c1, .slice A2 nk c2, .slice A3 nd c3] rfl rfl 29 _ HY4.out (by kernel_rfl) rfl HP4.out.ones ?_)
    refine ret_three (g := N + 1) rfl rfl (setRow_heap w4 (N + 1) _ #[.slice A1 nb c1, .slice A2 nk c2, .slice A3 nd c3] _ _ HY4.out) Try.underlying29 rfl (by kernel_rfl) rfl ?_
    
    rw [HV.out]
    exact ⟨_, _, rfl, (by have := ((HP4.out.wide (base' := N) (by omega)).other HY4.out (by decide) (by decide) (by decide) (setRow_cells w4 (N + 1) #[.slice A1 nb c1, .slice A2 nk c2, .slice A3 nd c3])); exact ⟨_, _, _, rfl, this⟩), World.ownsRow_nil _ _ _ _, below_setRow HB4.out (by omega) _⟩
end Go.Proofs.Ytagajijjcjfopaa
