/-
  heap.Store, heap.Load. Every right heap, every place, all data that can be read. No condition beyond that.
-/
import Derived.Test.YtagajijjcjfopaaInsH
import Derived.Test.YtagajijjcjfopaaMarkH
import Derived.Test.YtagajijjcjfopaaAllocH
namespace Go.Proofs.Ytagajijjcjfopaa
open Go.RowKit

/-- the bytes from a on are others -/
def putB (B : List UInt8) (a : Nat) (l : List UInt8) : List UInt8 := B.take a ++ l ++ B.drop (a + l.length)
theorem putB_length {B l : List UInt8} {a : Nat} (h : a + l.length ≤ B.length) : (putB B a l).length = B.length := by
  unfold putB
  simp only [List.length_append, List.length_take, List.length_drop]
  omega
/-- what Store answers: bytes, pages, error -/
def storeO (B : List UInt8) (L : List Bk) (D : List Bool) (x : Int) (l : List UInt8) : List UInt8 × List Bool × Int :=
  if givenB L x (l.length : Int) = true then (putB B x.toNat l, markD D x.toNat l.length, 0) else (B, D, 2)
theorem given_in {T : Nat} {L : List Bk} {x n : Int} (hL : Blk T 0 L) (hn : 0 ≤ n) (h : givenB L x n = true) : 0 ≤ x ∧ x + n ≤ (T : Int) := by
  obtain ⟨b, hb, hp⟩ := List.any_eq_true.1 h
  have := blk_bound hL b hb
  unfold inB at hp
  simp only [decide_eq_true_eq] at hp
  omega
def HeapPost (w : World) (L : List Bk) (r : List UInt8 × List Bool × Int) (e : Ending) (w' : World) : Prop :=
  ∃ v', e = .returned (.tuple #[v', .int .i64 r.2.2]) ∧ Hp w.heap.size r.1 L r.2.1 v' w' ∧ Below w.heap.size w w'

set_option maxRecDepth 100000 in
set_option maxHeartbeats 1000000 in
theorem store_any {B : List UInt8} {L : List Bk} {D : List Bool} {base : Nat} {v : Value} (x : Int) (A : Option Addr) (c m lo hi : Nat) (l : List UInt8) (w : World) (hv : Hp base B L D v w) (hR : RightH B L D) (hx : I64 x) (hl : l.length = m) (hm2 : m ≤ 100000) (hA : A = none → c = 0) (hrd : Rd w lo hi A (cells l)) (hhi : hi ≤ w.heap.size) :
    Calls Try.prog 19 #[v, .int .i64 x, .slice A m c] w (HeapPost w L (storeO B L D x l)) := by
  have HM := Lib.hid hl
  have HRD := Lib.hid hrd
  have HHI := Lib.hid hhi
  have HXI := Lib.hid hx
  unfold HeapPost
  obtain ⟨v1, v2, v3, rfl, hv⟩ := hv
  have hb := hR.bytes
  have hm := hR.many
  have hd := hR.most
  have HRR := Lib.hid hR
  obtain ⟨N, hN⟩ : ∃ N, w.heap.size = N := ⟨_, rfl⟩
  obtain ⟨w1, hw1⟩ : ∃ w1, (w.alloc (.cells #[v1, v2, v3] 29)).alloc (.cells #[.slice none 0 0, .slice none 0 0, .slice none 0 0] 29) = w1 := ⟨_, rfl⟩
  rw [hN]
  have HB1 : Hid (Below N w w1) := by rw [← hw1]; exact ((Below.refl _ _).alloc (by omega) _).alloc (by simp; omega) _
  have HZ1 : Hid (w1.heap.size = N + 2) := by rw [← hw1]; show _ = _; simp [hN]
  have HG0 : Hid (w1.heap[N]? = some (.cells #[v1, v2, v3] 29 (0, 0))) := by rw [← hw1, ← hN]; exact old_alloc (heap_alloc_new w _) _
  have HG1 : Hid (w1.heap[N + 1]? = some (.cells #[.slice none 0 0, .slice none 0 0, .slice none 0 0] 29 (0, 0))) := by
    rw [← hw1, ← hN]
    have := heap_alloc_new (w.alloc (.cells #[v1, v2, v3] 29)) (.cells #[.slice none 0 0, .slice none 0 0, .slice none 0 0] 29)
    simp only [World.size_alloc] at this
    exact this
  have HC := Lib.hid (clone_any B L D base (.agg #[v1, v2, v3]) w1 (by rw [← hw1]; exact (hv.shut.alloc _).alloc _) (by omega) (by omega) (by omega))
  have HH1 := Lib.hid hv.ones
  obtain ⟨cv0, cv1, cv2⟩ := three_cells HG0.out
  clear hv hR hx hl hrd hhi hA
  go_enter Try.func19, Try.ntmps19
  go_wp2_with fail
  refine HC.out.mono ?_
  rintro e w2 ⟨v', rfl, ⟨y1, y2, y3, rfl, hp2⟩, hb2⟩
  have hx2 := old_below HG0.out hb2 (row_lt HG0.out)
  have hg1 := old_below HG1.out hb2 (row_lt HG1.out)
  have HX2 := Lib.hid hx2
  have HO2 := Lib.hid hp2.ones
  rw [HZ1.out] at hp2
  have HP : Hid (HpV (N + 2) B L D (w2.setRow N #[y1, y2, y3]) y1 y2 y3) := hp2.other hx2 (by decide) (by decide) (by decide) (setRow_cells _ _ _)
  have HX := Lib.hid (setRow_heap w2 N _ #[y1, y2, y3] _ _ hx2)
  have HY1 := Lib.hid ((setRow_other w2 N (N + 1) #[y1, y2, y3] (by omega)).trans hg1)
  have HB3 : Hid (Below N w (w2.setRow N #[y1, y2, y3])) := below_setRow (HB1.out.trans (hb2.mono (by have := HZ1.out; omega))) (Nat.le_refl _) _
  clear hb2 hp2 hx2 hg1 hw1 cv0 cv1 cv2 HC HG0 HG1
  go_upto_region 2 with (refine wpList_store_row rfl 29 _ _ rfl N #[y1, y2, y3] rfl rfl 29 _ HX2.out (by kernel_rfl) rfl HO2.out ?_)
  generalize w2.setRow N #[y1, y2, y3] = w3 at HP HX HY1 HB3 ⊢
  clear HX2 HO2 HH1
  have HZ3 : Hid (N + 2 ≤ w3.heap.size) := by have := row_lt HY1.out; show _ ≤ _; omega
  have HHI3 : Hid (hi ≤ N) := by show _ ≤ _; rw [← hN]; exact HHI.out
  obtain ⟨A1, c1, A2, c2, A3, c3, rfl, rfl, rfl⟩ := HP.out.forms
  obtain ⟨nb, hnb⟩ : ∃ k, B.length = k := ⟨_, rfl⟩
  obtain ⟨nk, hnk⟩ : ∃ k, L.length = k := ⟨_, rfl⟩
  obtain ⟨nd, hnd⟩ : ∃ k, D.length = k := ⟨_, rfl⟩
  rw [hnb, hnk, hnd] at HX HP
  rw [hnb] at hb
  rw [hnk] at hm
  rw [hnd] at hd
  have HNK := Lib.hid hnk
  have HNB := Lib.hid hnb
  have HND := Lib.hid hnd
  clear hnk hnb hnd
  have HGV := Lib.hid (given_any (v := .agg #[.slice A1 nb c1, .slice A2 nk c2, .slice A3 nd c3]) x (m : Int) w3 ⟨_, _, _, rfl, HP.out⟩ HRR.out HXI.out (by unfold I64; omega))
  cases hgv : givenB L x (m : Int) with
  | false =>
    have HV : Hid (storeO B L D x l = (B, D, 2)) := by show _ = _; unfold storeO; rw [HM.out, hgv]; rfl
    rw [hgv] at HGV
    clear hgv
    go_wp2_with (refine wpList_load_row rfl 29 _ rfl N rfl 29 #[.slice A1 nb c1, .slice A2 nk c2, .slice A3 nd c3] (0, 0) _ HX.out Try.underlying29 rfl (by kernel_rfl) ?_)
    refine HGV.out.mono ?_
    rintro e w4 ⟨rfl, hb4⟩
    have HB4 := Lib.hid (HB3.out.trans (hb4.mono (Nat.le_trans (Nat.le_add_right _ _) HZ3.out)))
    have HX4 := Lib.hid (old_below HX.out hb4 (row_lt HX.out))
    have HY4 := Lib.hid (old_below HY1.out hb4 (row_lt HY1.out))
    have HP4 := Lib.hid (HP.out.below hb4)
    clear hb4
    go_wp2_with (first | refine wpList_load_row rfl 29 _ rfl N rfl 29 #[.slice A1 nb c1, .slice A2 nk c2, .slice A3 nd c3] (0, 0) _ HX4.out Try.underlying29 rfl (by kernel_rfl) ?_ | refine wpList_store_row rfl 29 _ _ rfl (N + 1) #[.slice A1 nb c1, .slice A2 nk c2, .slice A3 nd c3] rfl rfl 29 _ HY4.out (by kernel_rfl) rfl HP4.out.ones ?_)
    refine ret_two (g := N + 1) rfl rfl (setRow_heap w4 (N + 1) _ #[.slice A1 nb c1, .slice A2 nk c2, .slice A3 nd c3] _ _ HY4.out) Try.underlying29 rfl (by kernel_rfl) rfl ?_
    rw [HV.out]
    exact ⟨_, rfl, ⟨_, _, _, rfl, (by
      have := ((HP4.out.wide (base' := N) (by omega)).other HY4.out (by decide) (by decide) (by decide) (setRow_cells w4 (N + 1) #[.slice A1 nb c1, .slice A2 nk c2, .slice A3 nd c3]))
      exact this)⟩, below_setRow HB4.out (by omega) _⟩
  | true =>
    have hin := given_in (n := (m : Int)) HRR.out.blk (by omega) hgv
    rw [HNB.out] at hin
    obtain ⟨a, rfl⟩ : ∃ a : Nat, x = (a : Int) := ⟨x.toNat, by omega⟩
    have HV : Hid (storeO B L D (a : Int) l = (putB B a l, markD D a m, 0)) := by show _ = _; unfold storeO; rw [HM.out, hgv, if_pos rfl, Int.toNat_natCast]
    rw [hgv] at HGV
    have ham : a + m ≤ nb := by omega
    clear hgv hin
    go_wp2_with (refine wpList_load_row rfl 29 _ rfl N rfl 29 #[.slice A1 nb c1, .slice A2 nk c2, .slice A3 nd c3] (0, 0) _ HX.out Try.underlying29 rfl (by kernel_rfl) ?_)
    refine HGV.out.mono ?_
    rintro e w4 ⟨rfl, hb4⟩
    have HB4 := Lib.hid (HB3.out.trans (hb4.mono (Nat.le_trans (Nat.le_add_right _ _) HZ3.out)))
    have HX4 := Lib.hid (old_below HX.out hb4 (row_lt HX.out))
    have HY4 := Lib.hid (old_below HY1.out hb4 (row_lt HY1.out))
    have HP4 := Lib.hid (HP.out.below hb4)
    have HZ4 : Hid (N + 2 ≤ w4.heap.size) := by have := row_lt HY4.out; show _ ≤ _; omega
    clear hb4
    have HLEN : Hid (nb = 64 * nd ∧ 1 ≤ nd) := by
      have h1 := HRR.out.len
      have h2 := HRR.out.one
      rw [HNB.out, HND.out] at h1
      rw [HND.out] at h2
      exact ⟨h1, h2⟩
    have hown1 := HP4.out.1
    rw [HNB.out] at hown1
    obtain ⟨g1, c', cur', e1, -⟩ := ownk_some hown1 (by have := HLEN.out; omega)
    injection e1 with e1 _ e3
    subst e1 e3
    obtain ⟨cur, hg1, hlo1, hnc1, hcm1, hcs1, htk1⟩ := own_at0 hown1 (by have := HLEN.out; omega)
    have hown3 := HP4.out.2.2
    rw [HND.out] at hown3
    have hcm2 : c1 ≤ 9223372036854775807 := by unfold maxLen at hcm1; omega
    have ha1 : (a : Int) ≤ (nb : Int) := by omega
    by_cases hm0 : m = 0
    · subst hm0
      have hl0 : l = [] := List.eq_nil_of_length_eq_zero HM.out
      subst hl0
      have HV2 : Hid (storeO B L D (a : Int) [] = (B, D, 0)) := by
        show _ = _
        rw [HV.out]
        simp [putB, markD]
      have hcp : ∀ d n c', (Builtin.copy_ #[25, 25] 3 #[.slice d n c', .slice A 0 c]).run Try.prog w4 = .ok (goInt 0) w4 := fun d n c' => run_copy_none (P := Try.prog) w4 25 25 3 5 d A n c' 0 c Try.underlying25 (by kernel_rfl) (by simp)
      have HMK := Lib.hid (mark_any (.slice (some ⟨g1, 0, none⟩) nb c1) (.slice A2 nk c2) (.slice A3 nd c3) D a 0 (N + 2) w4 HP4.out.2.2 rfl rfl (by rw [HND.out]; exact hd) (fun h => absurd rfl h) (by omega) (by omega))
      have HO1 := Lib.hid hown1
      obtain ⟨x0, x1, x2⟩ := three_cells HX4.out
      clear hown1 hown3 hcs1 htk1 hg1
      by_cases hca : c1 = a
      · have hcb := hca.symm
        subst hcb
        go_wp2_with (first | refine wpList_load_row rfl 29 _ rfl N rfl 29 #[.slice (some ⟨g1, 0, none⟩) nb a, .slice A2 nk c2, .slice A3 nd c3] (0, 0) _ HX4.out Try.underlying29 rfl (by kernel_rfl) ?_)
        clear x0 x1 x2 hcp
        refine HMK.out.mono ?_
        rintro e w7 ⟨rfl, ho7, hg7⟩
        have hnb7 : ∀ b o, b < N + 2 → w4.heap[b]? = some o → w7.heap[b]? = some o := fun b o hb ho => (hg7.block b (row_lt ho) (fun e => by have := (HP4.out.2.2.lt b e.symm).1; omega)).trans ho
        have HX7 := Lib.hid (hnb7 N _ (by omega) HX4.out)
        have HY7 := Lib.hid (hnb7 (N + 1) _ (by omega) HY4.out)
        have hkp : ∀ {e : TypeId} {k : Nat} {v : Value} {n : Nat} {xs : List Value}, 4 ≠ e → w4.ownsRow (N + 2) e k v n xs → w7.ownsRow (N + 2) e k v n xs := fun hne ho => ownk_kept ho hg7 (fun g C t fr hg hC => by have := ownk_type HP4.out.2.2 hg hC; rw [this]; exact hne)
        have HP7 : Hid (HpV (N + 2) (B) L (markD D a 0) w7 (.slice (some ⟨g1, 0, none⟩) nb a) (.slice A2 nk c2) (.slice A3 nd c3)) := ⟨hkp (by decide) HP4.out.1, hkp (by decide) HP4.out.2.1, ho7⟩
        have HB7 : Hid (Below N w w7) := HB4.out.trans ⟨hg7.os, hg7.tape, hg7.output, hg7.size, fun b hb => hg7.block b (by have := HB4.out.size; have := hN; omega) (fun e => by have := (HP4.out.2.2.lt b e.symm).1; omega)⟩
        clear hnb7 hkp ho7 hg7
        go_wp2_with (first | refine wpList_load_row rfl 29 _ rfl N rfl 29 #[.slice (some ⟨g1, 0, none⟩) nb a, .slice A2 nk c2, .slice A3 nd c3] (0, 0) _ HX7.out Try.underlying29 rfl (by kernel_rfl) ?_ | refine wpList_store_row rfl 29 _ _ rfl (N + 1) #[.slice (some ⟨g1, 0, none⟩) nb a, .slice A2 nk c2, .slice A3 nd c3] rfl rfl 29 _ HY7.out (by kernel_rfl) rfl HP7.out.ones ?_)
        refine ret_two (g := N + 1) rfl rfl (setRow_heap w7 (N + 1) _ #[.slice (some ⟨g1, 0, none⟩) nb a, .slice A2 nk c2, .slice A3 nd c3] _ _ HY7.out) Try.underlying29 rfl (by kernel_rfl) rfl ?_
        rw [HV2.out]
        have hm0 : markD D a 0 = D := by simp [markD]
        rw [hm0] at HP7
        exact ⟨_, rfl, ⟨_, _, _, rfl, (by
          have := ((HP7.out.wide (base' := N) (by omega)).other HY7.out (by decide) (by decide) (by decide) (setRow_cells w7 (N + 1) #[.slice (some ⟨g1, 0, none⟩) nb a, .slice A2 nk c2, .slice A3 nd c3]))
          exact this)⟩, below_setRow HB7.out (by omega) _⟩
      · go_wp2_with (first | refine wpList_load_row rfl 29 _ rfl N rfl 29 #[.slice (some ⟨g1, 0, none⟩) nb c1, .slice A2 nk c2, .slice A3 nd c3] (0, 0) _ HX4.out Try.underlying29 rfl (by kernel_rfl) ?_)
        clear x0 x1 x2 hcp
        refine HMK.out.mono ?_
        rintro e w7 ⟨rfl, ho7, hg7⟩
        have hnb7 : ∀ b o, b < N + 2 → w4.heap[b]? = some o → w7.heap[b]? = some o := fun b o hb ho => (hg7.block b (row_lt ho) (fun e => by have := (HP4.out.2.2.lt b e.symm).1; omega)).trans ho
        have HX7 := Lib.hid (hnb7 N _ (by omega) HX4.out)
        have HY7 := Lib.hid (hnb7 (N + 1) _ (by omega) HY4.out)
        have hkp : ∀ {e : TypeId} {k : Nat} {v : Value} {n : Nat} {xs : List Value}, 4 ≠ e → w4.ownsRow (N + 2) e k v n xs → w7.ownsRow (N + 2) e k v n xs := fun hne ho => ownk_kept ho hg7 (fun g C t fr hg hC => by have := ownk_type HP4.out.2.2 hg hC; rw [this]; exact hne)
        have HP7 : Hid (HpV (N + 2) (B) L (markD D a 0) w7 (.slice (some ⟨g1, 0, none⟩) nb c1) (.slice A2 nk c2) (.slice A3 nd c3)) := ⟨hkp (by decide) HP4.out.1, hkp (by decide) HP4.out.2.1, ho7⟩
        have HB7 : Hid (Below N w w7) := HB4.out.trans ⟨hg7.os, hg7.tape, hg7.output, hg7.size, fun b hb => hg7.block b (by have := HB4.out.size; have := hN; omega) (fun e => by have := (HP4.out.2.2.lt b e.symm).1; omega)⟩
        clear hnb7 hkp ho7 hg7
        go_wp2_with (first | refine wpList_load_row rfl 29 _ rfl N rfl 29 #[.slice (some ⟨g1, 0, none⟩) nb c1, .slice A2 nk c2, .slice A3 nd c3] (0, 0) _ HX7.out Try.underlying29 rfl (by kernel_rfl) ?_ | refine wpList_store_row rfl 29 _ _ rfl (N + 1) #[.slice (some ⟨g1, 0, none⟩) nb c1, .slice A2 nk c2, .slice A3 nd c3] rfl rfl 29 _ HY7.out (by kernel_rfl) rfl HP7.out.ones ?_)
        refine ret_two (g := N + 1) rfl rfl (setRow_heap w7 (N + 1) _ #[.slice (some ⟨g1, 0, none⟩) nb c1, .slice A2 nk c2, .slice A3 nd c3] _ _ HY7.out) Try.underlying29 rfl (by kernel_rfl) rfl ?_
        rw [HV2.out]
        have hm0 : markD D a 0 = D := by simp [markD]
        rw [hm0] at HP7
        exact ⟨_, rfl, ⟨_, _, _, rfl, (by
          have := ((HP7.out.wide (base' := N) (by omega)).other HY7.out (by decide) (by decide) (by decide) (setRow_cells w7 (N + 1) #[.slice (some ⟨g1, 0, none⟩) nb c1, .slice A2 nk c2, .slice A3 nd c3]))
          exact this)⟩, below_setRow HB7.out (by omega) _⟩
    · have hca : ¬ (c1 = a) := by omega
      obtain ⟨ad, rfl⟩ : ∃ ad, A = some ad := by
        obtain ⟨ad, e, _⟩ := HRD.out 0 _ (List.getElem?_eq_getElem (by rw [cells_length, HM.out]; omega))
        exact ⟨ad, e⟩
      obtain ⟨cur2, hcur2⟩ : ∃ cur2 : Array Value, (cur.toList.take a ++ cells l ++ cur.toList.drop (a + (cells l).length)).toArray = cur2 := ⟨_, rfl⟩
      have hcp : (Builtin.copy_ #[25, 25] 3 #[.slice (some ⟨g1, a, none⟩) (nb - a) (c1 - a), .slice (some ad) m c]).run Try.prog w4 = .ok (goInt m) (w4.setRow g1 cur2) := by
        have := run_copy_row (P := Try.prog) w4 25 25 3 5 g1 a (nb - a) (c1 - a) ad m c cur _ (cells l) Try.underlying25 (by kernel_rfl) hg1 (by rw [cells_length, HM.out]; exact (Nat.min_eq_left (by omega)).symm) (fun j u hu => by
          obtain ⟨ad', e, _, _, hc⟩ := (HRD.out.below HB4.out (by have := HHI3.out; omega)) j u hu
          cases e
          exact hc) (by rw [cells_length, HM.out, hcs1]; omega) (cells_one l)
        rw [cells_length, HM.out] at this
        rw [← hcur2, cells_length, HM.out]
        exact this
      obtain ⟨w5, hw5⟩ : ∃ w5, w4.setRow g1 cur2 = w5 := ⟨_, rfl⟩
      rw [hw5] at hcp
      have hgne : g1 ≠ N ∧ g1 ≠ N + 1 := ⟨by omega, by omega⟩
      have HX5 : Hid (w5.heap[N]? = some (.cells #[.slice (some ⟨g1, 0, none⟩) nb c1, .slice A2 nk c2, .slice A3 nd c3] 29 (0, 0))) := by rw [← hw5]; exact (setRow_other w4 g1 N cur2 (by omega)).trans HX4.out
      have HY5 : Hid (w5.heap[N + 1]? = some (.cells #[.slice none 0 0, .slice none 0 0, .slice none 0 0] 29 (0, 0))) := by rw [← hw5]; exact (setRow_other w4 g1 (N + 1) cur2 (by omega)).trans HY4.out
      have HB5 : Hid (Below N w w5) := by rw [← hw5]; exact below_setRow HB4.out (by omega) _
      have HPL : Hid ((putB B a l).length = nb) := by show _ = _; rw [putB_length (by rw [HM.out, HNB.out]; exact ham), HNB.out]
      have HP5 : Hid (HpV (N + 2) (putB B a l) L D w5 (.slice (some ⟨g1, 0, none⟩) nb c1) (.slice A2 nk c2) (.slice A3 nd c3)) := by
        rw [← hw5]
        refine ⟨?_, ownk_other HP4.out.2.1 hg1 (by decide) (setRow_cells _ _ _), ownk_other HP4.out.2.2 hg1 (by decide) (setRow_cells _ _ _)⟩
        rw [HPL.out]
        refine ⟨by rw [cells_length, HPL.out, Nat.mul_one], .inr ⟨g1, c1, cur2, rfl, hlo1, setRow_heap _ _ _ _ _ _ hg1, hnc1, hcm1, ?_, ?_⟩⟩
        · rw [← hcur2]
          simp only [List.size_toArray, List.length_append, List.length_take, List.length_drop, Array.length_toList, hcs1, cells_length, HM.out]
          omega
        · rw [← hcur2]
          show (cur.toList.take a ++ cells l ++ _).take _ = _
          rw [Nat.mul_one] at htk1 ⊢
          unfold putB
          rw [cells_append, cells_append, ← cells_take, ← cells_drop, ← htk1, List.take_take, Nat.min_eq_left (by omega), cells_length, List.take_append, List.take_of_length_le (by rw [List.length_append, List.length_take, cells_length, Array.length_toList, hcs1, HM.out]; omega)]
          congr 1
          rw [List.drop_take]
          congr 1
          rw [List.length_append, List.length_take, cells_length, Array.length_toList, hcs1]
          omega
      have HMK := Lib.hid (mark_any (.slice (some ⟨g1, 0, none⟩) nb c1) (.slice A2 nk c2) (.slice A3 nd c3) D a m (N + 2) w5 HP5.out.2.2 rfl rfl (by rw [HND.out]; exact hd) (fun _ => by rw [HND.out]; have := HLEN.out; omega) (by omega) (by omega))
      obtain ⟨x0, x1, x2⟩ := three_cells HX4.out
      clear hown1 hown3 hcs1 htk1 hg1 hcur2 hw5
      go_wp2_with (first | refine wpList_load_row rfl 29 _ rfl N rfl 29 #[.slice (some ⟨g1, 0, none⟩) nb c1, .slice A2 nk c2, .slice A3 nd c3] (0, 0) _ HX5.out Try.underlying29 rfl (by kernel_rfl) ?_)
      clear x0 x1 x2 hcp
      refine HMK.out.mono ?_
      rintro e w7 ⟨rfl, ho7, hg7⟩
      have hnb7 : ∀ b o, b < N + 2 → w5.heap[b]? = some o → w7.heap[b]? = some o := fun b o hb ho => (hg7.block b (row_lt ho) (fun e => by have := (HP5.out.2.2.lt b e.symm).1; omega)).trans ho
      have HX7 := Lib.hid (hnb7 N _ (by omega) HX5.out)
      have HY7 := Lib.hid (hnb7 (N + 1) _ (by omega) HY5.out)
      have hkp : ∀ {e : TypeId} {k : Nat} {v : Value} {n : Nat} {xs : List Value}, 4 ≠ e → w5.ownsRow (N + 2) e k v n xs → w7.ownsRow (N + 2) e k v n xs := fun hne ho => ownk_kept ho hg7 (fun g C t fr hg hC => by have := ownk_type HP5.out.2.2 hg hC; rw [this]; exact hne)
      have HP7 : Hid (HpV (N + 2) (putB B a l) L (markD D a m) w7 (.slice (some ⟨g1, 0, none⟩) nb c1) (.slice A2 nk c2) (.slice A3 nd c3)) := ⟨hkp (by decide) HP5.out.1, hkp (by decide) HP5.out.2.1, ho7⟩
      have HB7 : Hid (Below N w w7) := HB5.out.trans ⟨hg7.os, hg7.tape, hg7.output, hg7.size, fun b hb => hg7.block b (by have := HB5.out.size; have := hN; omega) (fun e => by have := (HP5.out.2.2.lt b e.symm).1; omega)⟩
      clear hnb7 hkp ho7 hg7
      go_wp2_with (first | refine wpList_load_row rfl 29 _ rfl N rfl 29 #[.slice (some ⟨g1, 0, none⟩) nb c1, .slice A2 nk c2, .slice A3 nd c3] (0, 0) _ HX7.out Try.underlying29 rfl (by kernel_rfl) ?_ | refine wpList_store_row rfl 29 _ _ rfl (N + 1) #[.slice (some ⟨g1, 0, none⟩) nb c1, .slice A2 nk c2, .slice A3 nd c3] rfl rfl 29 _ HY7.out (by kernel_rfl) rfl HP7.out.ones ?_)
      refine ret_two (g := N + 1) rfl rfl (setRow_heap w7 (N + 1) _ #[.slice (some ⟨g1, 0, none⟩) nb c1, .slice A2 nk c2, .slice A3 nd c3] _ _ HY7.out) Try.underlying29 rfl (by kernel_rfl) rfl ?_
      rw [HV.out]
      exact ⟨_, rfl, ⟨_, _, _, rfl, (by
        have := ((HP7.out.wide (base' := N) (by omega)).other HY7.out (by decide) (by decide) (by decide) (setRow_cells w7 (N + 1) #[.slice (some ⟨g1, 0, none⟩) nb c1, .slice A2 nk c2, .slice A3 nd c3]))
        exact this)⟩, below_setRow HB7.out (by omega) _⟩

end Go.Proofs.Ytagajijjcjfopaa
