/-
  heap.mark, heap.has, heap.view, heap.Written. Every right heap (Written: every heap). No condition beyond that.
-/
import Derived.Test.YtagajijjcjfopaaFindH
namespace Go.Proofs.Ytagajijjcjfopaa
open Go.RowKit

/-- the pages in which n bytes from a on lie are written -/
def markD (D : List Bool) (a n : Nat) : List Bool := if n = 0 then D else D.mapIdx fun p d => d || decide (a / 64 ≤ p ∧ p ≤ (a + n - 1) / 64)
def markTo (D : List Bool) (a q : Nat) : List Bool := D.mapIdx fun p d => d || decide (a ≤ p ∧ p < q)
theorem markTo_length (D : List Bool) (a q : Nat) : (markTo D a q).length = D.length := by simp [markTo]
theorem markTo_none (D : List Bool) (a : Nat) : markTo D a a = D := by
  unfold markTo
  refine List.ext_getElem? fun p => ?_
  rw [List.getElem?_mapIdx]
  cases h : D[p]? with
  | none => rfl
  | some d => simp; omega
theorem markTo_step (D : List Bool) (a q : Nat) (h : a ≤ q) : (markTo D a q).set q true = markTo D a (q + 1) := by
  unfold markTo
  refine List.ext_getElem? fun p => ?_
  rw [List.getElem?_set, List.getElem?_mapIdx, List.getElem?_mapIdx, List.length_mapIdx]
  by_cases hp : q = p
  · subst hp
    rw [if_pos rfl]
    by_cases hl : q < D.length
    · rw [if_pos hl, List.getElem?_eq_getElem hl]
      simp [h]
    · rw [if_neg hl, List.getElem?_eq_none (by omega)]
      rfl
  · rw [if_neg hp]
    cases hd : D[p]? with
    | none => rfl
    | some d =>
      simp only [Option.map_some, Option.some.injEq]
      congr 2
      apply propext
      omega
theorem markD_to (D : List Bool) (a n : Nat) (h : 0 < n) : markD D a n = markTo D (a / 64) ((a + n - 1) / 64 + 1) := by
  unfold markD markTo
  rw [if_neg (by omega)]
  refine List.ext_getElem? fun p => ?_
  rw [List.getElem?_mapIdx, List.getElem?_mapIdx]
  cases hd : D[p]? with
  | none => rfl
  | some d =>
    simp only [Option.map_some, Option.some.injEq]
    congr 2
    apply propext
    omega
theorem markD_length (D : List Bool) (a n : Nat) : (markD D a n).length = D.length := by
  unfold markD
  split <;> simp
theorem tfs_set (D : List Bool) (p : Nat) (b : Bool) : (tfs D).set p (.bool b) = tfs (D.set p b) := by simp [tfs, List.map_set]
/-- a store into a row of the call's own -/
theorem own_put {w : World} {base g n c p : Nat} {e : TypeId} {xs : List Value} {u : Value} (h : w.ownsRow base e 1 (.slice (some ⟨g, 0, none⟩) n c) n xs) (hp : p < n) (hu : u.oneCell' = true) :
    (w.setCell ⟨g, p, none⟩ u).ownsRow base e 1 (.slice (some ⟨g, 0, none⟩) n c) n (xs.set p u) := by
  obtain ⟨g', c', cur, e0, h1, h2, h3, h4, h5, h6⟩ := ownk_some h (by omega)
  injection e0 with e1 _ e3
  injection e1 with e1
  injection e1 with e1
  subst e1 e3
  refine ⟨by rw [List.length_set]; exact h.1, .inr ⟨g, c, cur.setIfInBounds p u, rfl, h1, heap_setCell_same w g p cur e u h2, h3, h4, by simpa using h5, ?_⟩⟩
  rw [Array.toList_setIfInBounds, List.take_set, h6]
def MarkPost (w : World) (base : Nat) (D : List Bool) (v3 : Value) (e : Ending) (w' : World) : Prop :=
  e = .returned (.tuple #[]) ∧ w'.ownsRow base 4 1 v3 D.length (tfs D) ∧ w.grownBy w' v3.ownBlock

set_option maxRecDepth 100000 in
set_option maxHeartbeats 400000 in
theorem mark_any (v1 v2 v3 : Value) (D : List Bool) (a n base : Nat) (w : World) (h : w.ownsRow base 4 1 v3 D.length (tfs D)) (h1 : v1.oneCell' = true) (h2 : v2.oneCell' = true) (hd : D.length ≤ 64) (hn : n ≠ 0 → a + n ≤ 64 * D.length) (ha : a ≤ 5000) (hn2 : n ≤ 5000) :
    Calls Try.prog 40 #[.agg #[v1, v2, v3], .int .i64 (a : Int), .int .i64 (n : Int)] w (MarkPost w base (markD D a n) v3) := by
  unfold MarkPost
  have hgb : w.grownBy (w.alloc (.cells #[v1, v2, v3] 29)) v3.ownBlock := World.grownBy_alloc _ _ _
  by_cases hz : n = 0
  · subst hz
    have HO : Hid ((w.alloc (.cells #[v1, v2, v3] 29)).ownsRow base 4 1 v3 D.length (tfs D)) := ownk_below h ((Below.refl _ _).alloc (Nat.le_refl _) _) (Nat.le_refl _)
    have HG := Lib.hid hgb
    have HM : Hid (markD D a 0 = D) := by show _ = _; simp [markD]
    clear h h1 h2 hn hgb
    go_enter Try.func40, Try.ntmps40
    go_wp2
    refine ret_none rfl rfl ?_
    rw [HM.out]
    exact ⟨rfl, HO.out, HG.out⟩
  · have hn := hn hz
    obtain ⟨nd, hnd⟩ : ∃ k, D.length = k := ⟨_, rfl⟩
    rw [hnd] at h hd hn
    obtain ⟨g, c, cur, rfl, hlo, hg, -, -, -, -⟩ := ownk_some h (by omega)
    have HGL : Hid (g < w.heap.size) := row_lt hg
    obtain ⟨b, hb⟩ : ∃ b, a / 64 = b := ⟨_, rfl⟩
    obtain ⟨l, hl⟩ : ∃ l, (a + n - 1) / 64 = l := ⟨_, rfl⟩
    have HM : Hid (markD D a n = markTo D b (l + 1)) := by show _ = _; rw [markD_to D a n (by omega), hb, hl]
    have hlast : ((a : Int) + (n : Int) - 1) / 64 = (l : Int) := by omega
    have hfirst : (a : Int) / 64 = (b : Int) := by omega
    have HF := Lib.hid hlast
    have hbl : b ≤ l := by omega
    have hl2 : l < nd := by omega
    have HO : Hid ((w.alloc (.cells #[v1, v2, .slice (some ⟨g, 0, none⟩) nd c] 29)).ownsRow base 4 1 (.slice (some ⟨g, 0, none⟩) nd c) nd (tfs (markTo D b b))) := by
      rw [markTo_none]
      exact ownk_below h ((Below.refl _ _).alloc (Nat.le_refl _) _) (Nat.le_refl _)
    have HG : Hid (w.grownBy (w.alloc (.cells #[v1, v2, .slice (some ⟨g, 0, none⟩) nd c] 29)) (some g)) := hgb
    have HND := Lib.hid hnd
    clear h hgb hnd hlo hg hb hl
    go_enter Try.func40, Try.ntmps40
    go_wp2
    clear hlast hfirst
    go_loopw [6] (fun t6 wr => ∃ q : Nat, b ≤ q ∧ q ≤ l + 1 ∧ t6 = .int .i64 (q : Int) ∧ Hid (wr.ownsRow base 4 1 (.slice (some ⟨g, 0, none⟩) nd c) nd (tfs (markTo D b q))) ∧ Hid (w.grownBy wr (some g)) ∧ Hid (wr.heap[w.heap.size]? = some (.cells #[v1, v2, .slice (some ⟨g, 0, none⟩) nd c] 29 (0, 0)))) (fun t6 _ => l + 1 - (intOf t6).toNat)
    case atStart => exact ⟨b, Nat.le_refl _, by omega, rfl, HO, HG, Lib.hid (heap_alloc_new w _)⟩
    case round =>
      obtain ⟨q, hq1, hq2, rfl, HOW, HGB, HBX⟩ := hrel
      have hlast := HF.out
      by_cases hlt : q ≤ l
      · obtain ⟨c0, c1, c2⟩ := three_cells HBX.out
        have hq : q < nd := by omega
        obtain ⟨u, hu⟩ : ∃ u, (markTo D b q)[q]? = some u := ⟨_, List.getElem?_eq_getElem (by rw [markTo_length, HND.out]; exact hq)⟩
        have hcell : wr.cell? ⟨g, q, none⟩ = some (.bool u) := own_cell HOW.out (by simp [tfs, hu])
        obtain ⟨cur, hgc, -⟩ := own_at0 HOW.out (by omega)
        have hfz := frozen_of_row wr g q cur _ hgc
        have HW2 : Hid ((wr.setCell ⟨g, q, none⟩ (.bool true)).ownsRow base 4 1 (.slice (some ⟨g, 0, none⟩) nd c) nd (tfs (markTo D b (q + 1)))) := by
          have := own_put HOW.out hq (u := .bool true) rfl
          rwa [tfs_set, markTo_step D b q hq1] at this
        have HB2 : Hid (w.grownBy (wr.setCell ⟨g, q, none⟩ (.bool true)) (some g)) := ⟨HGB.out.os, HGB.out.tape, HGB.out.output, by simp; exact HGB.out.size, fun k hk hx => (heap_setCell_other _ _ _ _ (fun e => hx (by rw [e]))).trans (HGB.out.block k hk hx)⟩
        have HX2 : Hid ((wr.setCell ⟨g, q, none⟩ (.bool true)).heap[w.heap.size]? = some (.cells #[v1, v2, .slice (some ⟨g, 0, none⟩) nd c] 29 (0, 0))) := (heap_setCell_other _ _ _ _ (Nat.ne_of_gt HGL.out)).trans HBX.out
        clear hu hgc
        go_wp2
        go_roundw
        case rel => exact ⟨q + 1, by omega, by omega, by go_num, HW2, HB2, HX2⟩
        case measure => simp [intOf]; omega
      · obtain rfl : q = l + 1 := by omega
        go_wp2
        refine ret_norm rfl rfl ?_
        rw [HM.out]
        refine ⟨rfl, ?_, HGB.out⟩
        rw [markTo_length, HND.out]
        exact HOW.out

set_option maxRecDepth 100000 in
set_option maxHeartbeats 400000 in
theorem has_any {B : List UInt8} {L : List Bk} {D : List Bool} {base : Nat} {v : Value} (p : Int) (w : World) (hv : Hp base B L D v w) (hR : RightH B L D) :
    Calls Try.prog 44 #[v, .int .i64 p] w fun e w' => e = .returned (.bool (decide (0 ≤ p ∧ p < (D.length : Int)))) ∧ Below w.heap.size w w' := by
  obtain ⟨v1, v2, v3, rfl, hv⟩ := hv
  obtain ⟨A3, c3, rfl, -⟩ := ownk_form hv.2.2
  have HP := Lib.hid (hv.shut.alloc (.cells #[v1, v2, .slice A3 D.length c3] 29))
  have hd : D.length ≤ 64 := hR.most
  obtain ⟨nd, hnd⟩ : ∃ k, D.length = k := ⟨_, rfl⟩
  rw [hnd] at hd HP ⊢
  have HRH := Lib.hid hR
  have HB1 := Lib.hid ((Below.refl w.heap.size w).alloc (Nat.le_refl _) (.cells #[v1, v2, .slice A3 nd c3] 29))
  clear hv hR hnd
  by_cases q1 : 0 ≤ p
  · by_cases q2 : p < (nd : Int)
    · have HV : Hid (decide (0 ≤ p ∧ p < (nd : Int)) = true) := decide_eq_true ⟨q1, q2⟩
      rw [HV.out]
      go_enter Try.func44, Try.ntmps44
      go_wp2_with fail
      refine (right_hp HP.out HRH.out).mono ?_
      rintro e w2 ⟨rfl, hb⟩
      have HB2 := Lib.hid (HB1.out.trans (hb.mono HB1.out.size))
      clear hb
      go_wp2
      go_ret
      exact ⟨rfl, HB2.out⟩
    · have HV : Hid (decide (0 ≤ p ∧ p < (nd : Int)) = false) := decide_eq_false fun h => q2 h.2
      rw [HV.out]
      go_enter Try.func44, Try.ntmps44
      go_wp2
      go_ret
      exact ⟨rfl, HB1.out⟩
  · have HV : Hid (decide (0 ≤ p ∧ p < (nd : Int)) = false) := decide_eq_false fun h => q1 h.1
    rw [HV.out]
    go_enter Try.func44, Try.ntmps44
    go_wp2
    go_ret
    exact ⟨rfl, HB1.out⟩

set_option maxRecDepth 100000 in
set_option maxHeartbeats 400000 in
theorem view_any (A1 : Option Addr) (v2 v3 : Value) (nb c1 p : Nat) (w : World) (h2 : v2.oneCell' = true) (h3 : v3.oneCell' = true) (hc : nb ≤ c1) (hp : 64 * (p + 1) ≤ nb) (hb : nb ≤ 4096) :
    Calls Try.prog 45 #[.agg #[.slice A1 nb c1, v2, v3], .int .i64 (p : Int)] w fun e w' => e = .returned (.slice (A1.map (·.add (64 * p))) 64 (c1 - 64 * p)) ∧ Below w.heap.size w w' := by
  have HB1 := Lib.hid ((Below.refl w.heap.size w).alloc (Nat.le_refl _) (.cells #[.slice A1 nb c1, v2, v3] 29))
  have hc2 : ((p : Int) + 1) * 64 ≤ (c1 : Int) := by omega
  go_enter Try.func45, Try.ntmps45
  go_wp2
  go_ret
  refine ⟨?_, HB1.out⟩
  have e : (p + 1) * 64 - p * 64 = 64 := by omega
  show Ending.returned (.slice (Option.map (fun x => x.add (p * 64)) A1) ((p + 1) * 64 - p * 64) (c1 - p * 64)) = _
  rw [e, Nat.mul_comm 64 p]

/-- the pages below k that are written -/
def pagesTo (D : List Bool) (k : Nat) : List Nat := (List.range k).filter fun i => D[i]?.getD false
theorem pages_step (D : List Bool) (k : Nat) (b : Bool) (h : D[k]? = some b) : pagesTo D (k + 1) = pagesTo D k ++ (if b then [k] else []) := by
  unfold pagesTo
  rw [List.range_succ, List.filter_append]
  congr 1
  cases b <;> simp [h]
def ints (l : List Nat) : List Value := l.map fun i : Nat => .int .i64 (i : Int)
theorem pages_le (D : List Bool) (k : Nat) : (pagesTo D k).length ≤ k := by
  unfold pagesTo
  exact Nat.le_trans (List.length_filter_le _ _) (by simp)

set_option maxRecDepth 100000 in
set_option maxHeartbeats 400000 in
theorem written_any {B : List UInt8} {L : List Bk} {D : List Bool} {base : Nat} {v : Value} (w : World) (hv : Hp base B L D v w) (hd : D.length ≤ 1000) :
    Calls Try.prog 16 #[v] w fun e w' => ∃ u, e = .returned u ∧ w'.ownsRow w.heap.size 3 1 u (pagesTo D D.length).length (ints (pagesTo D D.length)) ∧ Below w.heap.size w w' := by
  obtain ⟨v1, v2, v3, rfl, hv⟩ := hv
  obtain ⟨A3, c3, rfl, -⟩ := ownk_form hv.2.2
  have HRD : Hid (Rd w base w.heap.size A3 (tfs D)) := ownk_rd hv.2.2
  obtain ⟨nd, hnd⟩ : ∃ k, D.length = k := ⟨_, rfl⟩
  rw [hnd] at hd ⊢
  have HN := Lib.hid hnd
  obtain ⟨i0, hi0, hz0, hz1, hz2⟩ := info_parts info_in
  clear hv hnd
  go_enter Try.func16, Try.ntmps16
  go_wp2
  go_loopw [9, 3] (fun t9 t3 wr => ∃ (k : Nat) (x3 : Value), k ≤ nd ∧ t9 = .int .i64 (k : Int) ∧ x3 = t3 ∧ Hid (wr.ownsRow w.heap.size 3 1 x3 (pagesTo D k).length (ints (pagesTo D k))) ∧ Hid (Below w.heap.size w wr)) (fun t9 _ _ => nd - (intOf t9).toNat)
  case atStart => exact ⟨0, _, Nat.zero_le _, rfl, rfl, World.ownsRow_nil _ _ _ _, Lib.hid ((Below.refl _ _).alloc (Nat.le_refl _) _)⟩
  case round =>
    obtain ⟨k, x3, hk, rfl, rfl, HOW, HBEL⟩ := hrel
    by_cases hlt : k < nd
    · obtain ⟨b, hb⟩ : ∃ b, D[k]? = some b := ⟨_, List.getElem?_eq_getElem (by rw [HN.out]; exact hlt)⟩
      obtain ⟨ad, rfl, -, -, hc⟩ := (HRD.out.below HBEL.out (Nat.le_refl _)) k (.bool b) (by simp [tfs, hb])
      have HST := Lib.hid (pages_step D k b hb)
      clear hb
      cases b
      · have HO2 : Hid (wr.ownsRow w.heap.size 3 1 x3 (pagesTo D (k + 1)).length (ints (pagesTo D (k + 1)))) := by
          show World.ownsRow _ _ _ _ _ _ _
          rw [HST.out]
          simpa using HOW.out
        go_wp2
        go_roundw
        case rel => exact ⟨k + 1, _, by omega, by go_num, rfl, HO2, HBEL⟩
        case measure => simp [intOf]; omega
      · have hple := pages_le D k
        obtain ⟨m, hm⟩ : ∃ m, (pagesTo D k).length = m := ⟨_, rfl⟩
        rw [hm] at HOW hple
        have HM := Lib.hid hm
        clear hm
        have HOA := Lib.hid (ownk_below HOW.out ((Below.refl _ _).alloc (Nat.le_refl _) (.cells #[.int .i64 (k : Int)] 3)) (Nat.le_refl _))
        have HHS := Lib.hid HBEL.out.size
        have HRN := Lib.hid (rd_new wr [.int .i64 (k : Int)] 3 (0, 0))
        go_wp2_with (at_builtin; refine wpList_append_rd (P := Try.prog) rfl _ _ 43 rfl w.heap.size 3 i0 _ 8 Try.underlying43 hi0 hz0 hz1 hz2 rfl x3 m (ints (pagesTo D k)) rfl HOA.out (some ⟨wr.heap.size, 0, none⟩) 1 1 [.int .i64 (k : Int)] rfl (fun h => by cases h) rfl HRN.out (by intro u hu; simp at hu; subst hu; rfl) (by unfold maxLen; omega) (by omega) (by have := HHS.out; simp; omega) ?_)
        intro v9 w9 hown9 hgr9
        have HB9 : Hid (Below w.heap.size w w9) := (HBEL.out.alloc HHS.out _).grown hgr9 (by have := HHS.out; simp; omega) fun g hg => (HOW.out.lt g hg).1
        have HO9 : Hid (w9.ownsRow w.heap.size 3 1 v9 (pagesTo D (k + 1)).length (ints (pagesTo D (k + 1)))) := by
          show World.ownsRow _ _ _ _ _ _ _
          rw [HST.out]
          simpa [ints, HM.out] using hown9
        clear hown9 hgr9
        go_wp2
        go_roundw
        case rel => exact ⟨k + 1, _, by omega, by go_num, rfl, HO9, HB9⟩
        case measure => simp [intOf]; omega
    · obtain rfl : k = nd := by omega
      go_wp2
      go_ret
      exact ⟨_, rfl, HOW.out, HBEL.out⟩
end Go.Proofs.Ytagajijjcjfopaa
