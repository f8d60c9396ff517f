/-
  heap.Hear. Every right heap, every page, all data that can be read. No condition beyond that.
-/
import Derived.Test.YtagajijjcjfopaaStoreH
namespace Go.Proofs.Ytagajijjcjfopaa
open Go.RowKit

theorem put_own {w : World} {base g n c a : Nat} {cur cur2 : Array Value} {B l : List UInt8} (hg : w.heap[g]? = some (.cells cur 5 (0, 0))) (hlo : base ≤ g) (hnc : n ≤ c) (hcm : c ≤ maxLen) (hcs : cur.size = c * 1) (htk : cur.toList.take (n * 1) = cells B) (hn : B.length = n) (ha : a + l.length ≤ n)
    (hc2 : (cur.toList.take a ++ cells l ++ cur.toList.drop (a + (cells l).length)).toArray = cur2) : (w.setRow g cur2).ownsRow base 5 1 (.slice (some ⟨g, 0, none⟩) n c) n (cells (putB B a l)) := by
  rw [Nat.mul_one] at hcs htk
  subst hc2
  refine ⟨by rw [cells_length, putB_length (by omega), Nat.mul_one]; exact hn, .inr ⟨g, c, _, rfl, hlo, setRow_heap _ _ _ _ _ _ hg, hnc, hcm, ?_, ?_⟩⟩
  · simp only [List.size_toArray, List.length_append, List.length_take, List.length_drop, Array.length_toList, hcs, cells_length]
    omega
  · show (cur.toList.take a ++ cells l ++ _).take _ = _
    rw [Nat.mul_one]
    unfold putB
    rw [cells_append, cells_append, ← cells_take, ← cells_drop, ← htk, List.take_take, Nat.min_eq_left (by omega), cells_length, List.take_append, List.take_of_length_le (by rw [List.length_append, List.length_take, cells_length, Array.length_toList, hcs]; omega)]
    congr 1
    rw [List.drop_take]
    congr 1
    rw [List.length_append, List.length_take, cells_length, Array.length_toList, hcs]
    omega
/-- what Hear answers: bytes, error -/
def hearO (B : List UInt8) (nd : Nat) (p : Int) (l : List UInt8) : List UInt8 × Int :=
  if 0 ≤ p ∧ p < (nd : Int) then if l.length = 64 then (putB B (64 * p.toNat) l, 0) else (B, 1) else (B, 2)
def HearPost (w : World) (L : List Bk) (D : List Bool) (r : List UInt8 × Int) (e : Ending) (w' : World) : Prop :=
  ∃ v', e = .returned (.tuple #[v', .int .i64 r.2]) ∧ Hp w.heap.size r.1 L D v' w' ∧ Below w.heap.size w w'

set_option maxRecDepth 100000 in
set_option maxHeartbeats 1000000 in
theorem hear_any {B : List UInt8} {L : List Bk} {D : List Bool} {base : Nat} {v : Value} (p : Int) (A : Option Addr) (c m lo hi : Nat) (l : List UInt8) (w : World) (hv : Hp base B L D v w) (hR : RightH B L D) (hp : I64 p) (hl : l.length = m) (hm2 : m ≤ 100000) (hrd : Rd w lo hi A (cells l)) (hhi : hi ≤ w.heap.size) :
    Calls Try.prog 24 #[v, .int .i64 p, .slice A m c] w (HearPost w L D (hearO B D.length p l)) := by
  have HM := Lib.hid hl
  have HRD := Lib.hid hrd
  have HHI := Lib.hid hhi
  unfold I64 at hp
  unfold HearPost
  obtain ⟨v1, v2, v3, rfl, hv⟩ := hv
  have hb := hR.bytes
  have hm := hR.many
  have hd := hR.most
  have HRR := Lib.hid hR
  obtain ⟨N, hN⟩ : ∃ N, w.heap.size = N := ⟨_, rfl⟩
  obtain ⟨w1, hw1⟩ : ∃ w1, (w.alloc (.cells #[v1, v2, v3] 29)).alloc (.cells #[.slice none 0 0, .slice none 0 0, .slice none 0 0] 29) = w1 := ⟨_, rfl⟩
  rw [hN]
  have HB1 : Hid (Below N w w1) := by rw [← hw1]; exact ((Below.refl _ _).alloc (by omega) _).alloc (by simp; omega) _
  have HZ1 : Hid (w1.heap.size = N + 2) := by rw [← hw1]; show _ = _; simp [hN]
  have HG0 : Hid (w1.heap[N]? = some (.cells #[v1, v2, v3] 29 (0, 0))) := by rw [← hw1, ← hN]; exact old_alloc (heap_alloc_new w _) _
  have HG1 : Hid (w1.heap[N + 1]? = some (.cells #[.slice none 0 0, .slice none 0 0, .slice none 0 0] 29 (0, 0))) := by
    rw [← hw1, ← hN]
    have := heap_alloc_new (w.alloc (.cells #[v1, v2, v3] 29)) (.cells #[.slice none 0 0, .slice none 0 0, .slice none 0 0] 29)
    simp only [World.size_alloc] at this
    exact this
  have HC := Lib.hid (clone_any B L D base (.agg #[v1, v2, v3]) w1 (by rw [← hw1]; exact (hv.shut.alloc _).alloc _) (by omega) (by omega) (by omega))
  have HH1 := Lib.hid hv.ones
  obtain ⟨cv0, cv1, cv2⟩ := three_cells HG0.out
  clear hv hR hl hrd hhi
  go_enter Try.func24, Try.ntmps24
  go_wp2_with fail
  refine HC.out.mono ?_
  rintro e w2 ⟨v', rfl, ⟨y1, y2, y3, rfl, hp2⟩, hb2⟩
  have hx2 := old_below HG0.out hb2 (row_lt HG0.out)
  have hg1 := old_below HG1.out hb2 (row_lt HG1.out)
  have HX2 := Lib.hid hx2
  have HO2 := Lib.hid hp2.ones
  rw [HZ1.out] at hp2
  have HP : Hid (HpV (N + 2) B L D (w2.setRow N #[y1, y2, y3]) y1 y2 y3) := hp2.other hx2 (by decide) (by decide) (by decide) (setRow_cells _ _ _)
  have HX := Lib.hid (setRow_heap w2 N _ #[y1, y2, y3] _ _ hx2)
  have HY1 := Lib.hid ((setRow_other w2 N (N + 1) #[y1, y2, y3] (by omega)).trans hg1)
  have HB3 : Hid (Below N w (w2.setRow N #[y1, y2, y3])) := below_setRow (HB1.out.trans (hb2.mono (by have := HZ1.out; omega))) (Nat.le_refl _) _
  clear hb2 hp2 hx2 hg1 hw1 cv0 cv1 cv2 HC HG0 HG1
  go_upto_region 2 with (refine wpList_store_row rfl 29 _ _ rfl N #[y1, y2, y3] rfl rfl 29 _ HX2.out (by kernel_rfl) rfl HO2.out ?_)
  generalize w2.setRow N #[y1, y2, y3] = w3 at HP HX HY1 HB3 ⊢
  clear HX2 HO2 HH1
  have HZ3 : Hid (N + 2 ≤ w3.heap.size) := by have := row_lt HY1.out; show _ ≤ _; omega
  have HHI3 : Hid (hi ≤ N) := by show _ ≤ _; rw [← hN]; exact HHI.out
  obtain ⟨A1, c1, A2, c2, A3, c3, rfl, rfl, rfl⟩ := HP.out.forms
  obtain ⟨nb, hnb⟩ : ∃ k, B.length = k := ⟨_, rfl⟩
  obtain ⟨nk, hnk⟩ : ∃ k, L.length = k := ⟨_, rfl⟩
  obtain ⟨nd, hnd⟩ : ∃ k, D.length = k := ⟨_, rfl⟩
  rw [hnb, hnk, hnd] at HX HP
  rw [hnb] at hb
  rw [hnk] at hm
  rw [hnd] at hd
  have HNK := Lib.hid hnk
  have HNB := Lib.hid hnb
  have HND := Lib.hid hnd
  have HLEN : Hid (nb = 64 * nd ∧ 1 ≤ nd) := by
    have h1 := HRR.out.len
    have h2 := HRR.out.one
    rw [HNB.out, HND.out] at h1
    rw [HND.out] at h2
    exact ⟨h1, h2⟩
  clear hnk hnb hnd
  have HHS := Lib.hid (has_any (v := .agg #[.slice A1 nb c1, .slice A2 nk c2, .slice A3 nd c3]) p w3 ⟨_, _, _, rfl, HP.out⟩ HRR.out)
  rw [HND.out] at HHS
  by_cases q1 : 0 ≤ p ∧ p < (nd : Int)
  · rw [decide_eq_true q1] at HHS
    obtain ⟨k, rfl⟩ : ∃ k : Nat, p = (k : Int) := ⟨p.toNat, by omega⟩
    have hk : k < nd := by omega
    by_cases q2 : m = 64
    · have HV : Hid (hearO B D.length (k : Int) l = (putB B (64 * k) l, 0)) := by show _ = _; unfold hearO; rw [HND.out, if_pos q1, HM.out, if_pos q2, Int.toNat_natCast]
      subst q2
      clear q1
      go_wp2_with (refine wpList_load_row rfl 29 _ rfl N rfl 29 #[.slice A1 nb c1, .slice A2 nk c2, .slice A3 nd c3] (0, 0) _ HX.out Try.underlying29 rfl (by kernel_rfl) ?_)
      refine HHS.out.mono ?_
      rintro e w4 ⟨rfl, hb4⟩
      have HB4 := Lib.hid (HB3.out.trans (hb4.mono (Nat.le_trans (Nat.le_add_right _ _) HZ3.out)))
      have HX4 := Lib.hid (old_below HX.out hb4 (row_lt HX.out))
      have HY4 := Lib.hid (old_below HY1.out hb4 (row_lt HY1.out))
      have HP4 := Lib.hid (HP.out.below hb4)
      have HZ4 : Hid (N + 2 ≤ w4.heap.size) := by have := row_lt HY4.out; show _ ≤ _; omega
      clear hb4
      have hown1 := HP4.out.1
      rw [HNB.out] at hown1
      obtain ⟨g1, c', cur', e1, -⟩ := ownk_some hown1 (by have := HLEN.out; omega)
      injection e1 with e1 _ e3
      subst e1 e3
      have HVW := Lib.hid (view_any (some ⟨g1, 0, none⟩) (.slice A2 nk c2) (.slice A3 nd c3) nb c1 k w4 rfl rfl (own_at0 hown1 (by have := HLEN.out; omega)).choose_spec.2.2.1 (by have := HLEN.out; omega) hb)
      rw [Option.map_some, Addr.add_mid, Nat.zero_add] at HVW
      have HO1 := Lib.hid hown1
      clear hown1
      go_wp2_with (refine wpList_load_row rfl 29 _ rfl N rfl 29 #[.slice (some ⟨g1, 0, none⟩) nb c1, .slice A2 nk c2, .slice A3 nd c3] (0, 0) _ HX4.out Try.underlying29 rfl (by kernel_rfl) ?_)
      refine HVW.out.mono ?_
      rintro e w5 ⟨rfl, hb5⟩
      obtain ⟨cur, hg1, hlo1, hnc1, hcm1, hcs1, htk1⟩ := own_at0 (ownk_below HO1.out hb5 (Nat.le_refl _)) (by have := HLEN.out; omega)
      have hx5 := old_below HX4.out hb5 (row_lt HX4.out)
      have hy5 := old_below HY4.out hb5 (row_lt HY4.out)
      have hp5 := HP4.out.below hb5
      have hbl5 := HB4.out.trans (hb5.mono (Nat.le_trans (Nat.le_add_right _ _) HZ4.out))
      clear hb5
      obtain ⟨ad, rfl⟩ : ∃ ad, A = some ad := by
        obtain ⟨ad, e, _⟩ := HRD.out 0 _ (List.getElem?_eq_getElem (by rw [cells_length, HM.out]; omega))
        exact ⟨ad, e⟩
      obtain ⟨cur2, hcur2⟩ : ∃ cur2 : Array Value, (cur.toList.take (64 * k) ++ cells l ++ cur.toList.drop (64 * k + (cells l).length)).toArray = cur2 := ⟨_, rfl⟩
      have hkb : 64 * k + 64 ≤ nb := by have := HLEN.out; omega
      have hcp : (Builtin.copy_ #[25, 25] 3 #[.slice (some ⟨g1, 64 * k, none⟩) 64 (c1 - 64 * k), .slice (some ad) 64 c]).run Try.prog w5 = .ok (goInt 64) (w5.setRow g1 cur2) := by
        have := run_copy_row (P := Try.prog) w5 25 25 3 5 g1 (64 * k) 64 (c1 - 64 * k) ad 64 c cur _ (cells l) Try.underlying25 (by kernel_rfl) hg1 (by rw [cells_length, HM.out]; rfl) (fun j u hu => by
          obtain ⟨ad', e, _, _, hc⟩ := (HRD.out.below hbl5 (by have := HHI3.out; omega)) j u hu
          cases e
          exact hc) (by rw [cells_length, HM.out, hcs1]; omega) (cells_one l)
        rw [cells_length, HM.out] at this
        rw [← hcur2, cells_length, HM.out]
        exact this
      obtain ⟨w6, hw6⟩ : ∃ w6, w5.setRow g1 cur2 = w6 := ⟨_, rfl⟩
      rw [hw6] at hcp
      have HX6 : Hid (w6.heap[N]? = some (.cells #[.slice (some ⟨g1, 0, none⟩) nb c1, .slice A2 nk c2, .slice A3 nd c3] 29 (0, 0))) := by rw [← hw6]; exact (setRow_other w5 g1 N cur2 (by omega)).trans hx5
      have HY6 : Hid (w6.heap[N + 1]? = some (.cells #[.slice none 0 0, .slice none 0 0, .slice none 0 0] 29 (0, 0))) := by rw [← hw6]; exact (setRow_other w5 g1 (N + 1) cur2 (by omega)).trans hy5
      have HB6 : Hid (Below N w w6) := by rw [← hw6]; exact below_setRow hbl5 (by omega) _
      have HPL : Hid ((putB B (64 * k) l).length = nb) := by show _ = _; rw [putB_length (by rw [HM.out, HNB.out]; exact hkb), HNB.out]
      have HP6 : Hid (HpV (N + 2) (putB B (64 * k) l) L D w6 (.slice (some ⟨g1, 0, none⟩) nb c1) (.slice A2 nk c2) (.slice A3 nd c3)) := by
        rw [← hw6]
        refine ⟨?_, ownk_other hp5.2.1 hg1 (by decide) (setRow_cells _ _ _), ownk_other hp5.2.2 hg1 (by decide) (setRow_cells _ _ _)⟩
        rw [HPL.out]
        exact put_own hg1 hlo1 hnc1 hcm1 hcs1 htk1 HNB.out (by rw [HM.out]; exact hkb) hcur2
      clear hg1 hcs1 htk1 hx5 hy5 hp5 hbl5 hcur2 hw6
      go_wp2_with (first | refine wpList_load_row rfl 29 _ rfl N rfl 29 #[.slice (some ⟨g1, 0, none⟩) nb c1, .slice A2 nk c2, .slice A3 nd c3] (0, 0) _ HX6.out Try.underlying29 rfl (by kernel_rfl) ?_ | refine wpList_store_row rfl 29 _ _ rfl (N + 1) #[.slice (some ⟨g1, 0, none⟩) nb c1, .slice A2 nk c2, .slice A3 nd c3] rfl rfl 29 _ HY6.out (by kernel_rfl) rfl HP6.out.ones ?_)
      refine ret_two (g := N + 1) rfl rfl (setRow_heap w6 (N + 1) _ #[.slice (some ⟨g1, 0, none⟩) nb c1, .slice A2 nk c2, .slice A3 nd c3] _ _ HY6.out) Try.underlying29 rfl (by kernel_rfl) rfl ?_
      
      rw [HV.out]
      exact ⟨_, rfl, (by have := ((HP6.out.wide (base' := N) (by omega)).other HY6.out (by decide) (by decide) (by decide) (setRow_cells w6 (N + 1) #[.slice (some ⟨g1, 0, none⟩) nb c1, .slice A2 nk c2, .slice A3 nd c3])); exact ⟨_, _, _, rfl, this⟩), below_setRow HB6.out (by omega) _⟩
    · have HV : Hid (hearO B D.length (k : Int) l = (B, 1)) := by show _ = _; unfold hearO; rw [HND.out, if_pos q1, HM.out, if_neg q2]
      have q3 : ((m : Int) != 64) = true := by simp [bne]; omega
      clear q1
      go_wp2_with (refine wpList_load_row rfl 29 _ rfl N rfl 29 #[.slice A1 nb c1, .slice A2 nk c2, .slice A3 nd c3] (0, 0) _ HX.out Try.underlying29 rfl (by kernel_rfl) ?_)
      refine HHS.out.mono ?_
      rintro e w4 ⟨rfl, hb4⟩
      have HB4 := Lib.hid (HB3.out.trans (hb4.mono (Nat.le_trans (Nat.le_add_right _ _) HZ3.out)))
      have HX4 := Lib.hid (old_below HX.out hb4 (row_lt HX.out))
      have HY4 := Lib.hid (old_below HY1.out hb4 (row_lt HY1.out))
      have HP4 := Lib.hid (HP.out.below hb4)
      have HZ4 : Hid (N + 2 ≤ w4.heap.size) := by have := row_lt HY4.out; show _ ≤ _; omega
      clear hb4
      go_wp2_with (first | refine wpList_load_row rfl 29 _ rfl N rfl 29 #[.slice A1 nb c1, .slice A2 nk c2, .slice A3 nd c3] (0, 0) _ HX4.out Try.underlying29 rfl (by kernel_rfl) ?_ | refine wpList_store_row rfl 29 _ _ rfl (N + 1) #[.slice A1 nb c1, .slice A2 nk c2, .slice A3 nd c3] rfl rfl 29 _ HY4.out (by kernel_rfl) rfl HP4.out.ones ?_)
      refine ret_two (g := N + 1) rfl rfl (setRow_heap w4 (N + 1) _ #[.slice A1 nb c1, .slice A2 nk c2, .slice A3 nd c3] _ _ HY4.out) Try.underlying29 rfl (by kernel_rfl) rfl ?_
      
      rw [HV.out]
      exact ⟨_, rfl, (by have := ((HP4.out.wide (base' := N) (by omega)).other HY4.out (by decide) (by decide) (by decide) (setRow_cells w4 (N + 1) #[.slice A1 nb c1, .slice A2 nk c2, .slice A3 nd c3])); exact ⟨_, _, _, rfl, this⟩), below_setRow HB4.out (by omega) _⟩
  · have HV : Hid (hearO B D.length p l = (B, 2)) := by show _ = _; unfold hearO; rw [HND.out, if_neg q1]
    rw [decide_eq_false q1] at HHS
    clear q1
    go_wp2_with (refine wpList_load_row rfl 29 _ rfl N rfl 29 #[.slice A1 nb c1, .slice A2 nk c2, .slice A3 nd c3] (0, 0) _ HX.out Try.underlying29 rfl (by kernel_rfl) ?_)
    refine HHS.out.mono ?_
    rintro e w4 ⟨rfl, hb4⟩
    have HB4 := Lib.hid (HB3.out.trans (hb4.mono (Nat.le_trans (Nat.le_add_right _ _) HZ3.out)))
    have HX4 := Lib.hid (old_below HX.out hb4 (row_lt HX.out))
    have HY4 := Lib.hid (old_below HY1.out hb4 (row_lt HY1.out))
    have HP4 := Lib.hid (HP.out.below hb4)
    have HZ4 : Hid (N + 2 ≤ w4.heap.size) := by have := row_lt HY4.out; show _ ≤ _; omega
    clear hb4
    go_wp2_with (first | refine wpList_load_row rfl 29 _ rfl N rfl 29 #[.slice A1 nb c1, .slice A2 nk c2, .slice A3 nd c3] (0, 0) _ HX4.out Try.underlying29 rfl (by kernel_rfl) ?_ | refine wpList_store_row rfl 29 _ _ rfl (N + 1) #[.slice A1 nb c1, .slice A2 nk c2, .slice A3 nd c3] rfl rfl 29 _ HY4.out (by kernel_rfl) rfl HP4.out.ones ?_)
    refine ret_two (g := N + 1) rfl rfl (setRow_heap w4 (N + 1) _ #[.slice A1 nb c1, .slice A2 nk c2, .slice A3 nd c3] _ _ HY4.out) Try.underlying29 rfl (by kernel_rfl) rfl ?_
    
    rw [HV.out]
    exact ⟨_, rfl, (by have := ((HP4.out.wide (base' := N) (by omega)).other HY4.out (by decide) (by decide) (by decide) (setRow_cells w4 (N + 1) #[.slice A1 nb c1, .slice A2 nk c2, .slice A3 nd c3])); exact ⟨_, _, _, rfl, this⟩), below_setRow HB4.out (by omega) _⟩
end Go.Proofs.Ytagajijjcjfopaa
