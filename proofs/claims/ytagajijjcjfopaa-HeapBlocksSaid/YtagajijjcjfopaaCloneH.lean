/-
  bytes.Clone, slices.Clone of blocks and of truths, heap.Clone: rows of the call's own with the same cells. Every slice that is read. No condition.
-/
import Derived.Test.YtagajijjcjfopaaHp
namespace Go.Proofs.Ytagajijjcjfopaa
open Go.RowKit

set_option maxHeartbeats 400000 in
theorem cloneb_any (A : Option Addr) (xs : List Value) (n c lo hi : Nat) (w : World) (h : Rd w lo hi A xs) (hhi : hi ≤ w.heap.size) (hl : xs.length = n * 1) (h1 : ∀ u ∈ xs, u.oneCell' = true) (hA : A = none → c = 0) (hm : n ≤ 100000) :
    Calls Try.prog 33 #[.slice A n c] w fun e w' => ∃ v, e = .returned v ∧ w'.ownsRow w.heap.size 5 1 v n xs ∧ Below w.heap.size w w' := by
  obtain ⟨i0, hi0, hz0, hz1, hz2⟩ := info_parts info_u8
  have HR := Lib.hid h
  have HX := Lib.hid hl
  have HO := Lib.hid h1
  have HHI := Lib.hid hhi
  clear h hl h1 hhi
  have hnil := Lib.run_eql_slice_nil (P := Try.prog) w 25 5 A n c 0 0 Try.underlying25
  rcases A with _ | ad
  · have HL : Hid (xs = [] ∧ n = 0) := by
      have h1 : xs = [] := by
        rcases xs with _ | ⟨u, r⟩
        · rfl
        · obtain ⟨_, e, _⟩ := HR.out 0 u rfl
          cases e
      refine ⟨h1, ?_⟩
      have := HX.out
      rw [h1] at this
      simp at this
      omega
    clear hA
    go_enter Try.func33, Try.ntmps33
    go_wp2
    go_ret
    exact ⟨_, rfl, by rw [HL.out.1, HL.out.2]; exact World.ownsRow_nil _ _ _ _, Below.refl _ _⟩
  · clear hA
    have HOW : Hid ((w.alloc (.cells #[] 5)).ownsRow w.heap.size 5 1 (.slice (some ⟨w.heap.size, 0, none⟩) 0 0) 0 []) := World.ownsRow_lit (base := w.heap.size) (e := 5) (size := 1) w #[] 0 (Nat.le_refl _) (Nat.zero_le _) rfl
    have HRX := Lib.hid (HR.out.alloc HHI.out (.cells #[] 5))
    have hz3 : ((.int .u8 0) : Value).cells.size = 1 := rfl
    go_enter Try.func33, Try.ntmps33
    go_wp2_with (at_builtin; refine wpList_append_rdk (P := Try.prog) rfl _ _ 25 rfl w.heap.size 5 i0 _ 1 1 Try.underlying25 hi0 hz0 hz1 hz2 hz3 (by omega) _ 0 [] rfl HOW.out (some ad) n c xs rfl (fun h => by cases h) HX.out HRX.out HO.out (by unfold maxLen; omega) (by omega) (by simp) ?_)
    intro v2 w2 hown2 hgrow2 _
    have HB : Hid (Below w.heap.size w w2) := ((Below.refl w.heap.size w).alloc (Nat.le_refl _) _).grown hgrow2 (by simp) fun g hg => by simp [Value.ownBlock] at hg; omega
    have HO2 : Hid (w2.ownsRow w.heap.size 5 1 v2 n xs) := by show World.ownsRow _ _ _ _ _ _ _; simpa using hown2
    clear hown2 hgrow2
    go_wp2
    go_ret
    exact ⟨_, rfl, HO2.out, HB.out⟩
theorem cloneb_own (v : Value) (xs : List Value) (n base : Nat) (w : World) (h : w.ownsRow base 5 1 v n xs) (h1 : ∀ u ∈ xs, u.oneCell' = true) (hm : n ≤ 100000) :
    Calls Try.prog 33 #[v] w fun e w' => ∃ v, e = .returned v ∧ w'.ownsRow w.heap.size 5 1 v n xs ∧ Below w.heap.size w w' := by
  obtain ⟨A, c, rfl, _, _, hA⟩ := ownk_form h
  exact cloneb_any A xs n c base w.heap.size w (ownk_rd h) (Nat.le_refl _) h.1 h1 hA hm

set_option maxHeartbeats 400000 in
theorem clonek_any (A : Option Addr) (xs : List Value) (n c lo hi : Nat) (w : World) (h : Rd w lo hi A xs) (hhi : hi ≤ w.heap.size) (hl : xs.length = n * 2) (h1 : ∀ u ∈ xs, u.oneCell' = true) (hA : A = none → c = 0) (hm : n ≤ 100000) :
    Calls Try.prog 34 #[.slice A n c] w fun e w' => ∃ v, e = .returned v ∧ w'.ownsRow w.heap.size 62 2 v n xs ∧ Below w.heap.size w w' := by
  obtain ⟨i0, hi0, hz0, hz1, hz2⟩ := info_parts info_bk
  have HR := Lib.hid h
  have HX := Lib.hid hl
  have HO := Lib.hid h1
  have HHI := Lib.hid hhi
  clear h hl h1 hhi
  have hnil := Lib.run_eql_slice_nil (P := Try.prog) w 26 62 A n c 0 0 Try.underlying26
  rcases A with _ | ad
  · have HL : Hid (xs = [] ∧ n = 0) := by
      have h1 : xs = [] := by
        rcases xs with _ | ⟨u, r⟩
        · rfl
        · obtain ⟨_, e, _⟩ := HR.out 0 u rfl
          cases e
      refine ⟨h1, ?_⟩
      have := HX.out
      rw [h1] at this
      simp at this
      omega
    clear hA
    go_enter Try.func34, Try.ntmps34
    go_wp2
    go_ret
    exact ⟨_, rfl, by rw [HL.out.1, HL.out.2]; exact World.ownsRow_nil _ _ _ _, Below.refl _ _⟩
  · clear hA
    have HOW : Hid ((w.alloc (.cells #[] 62)).ownsRow w.heap.size 62 2 (.slice (some ⟨w.heap.size, 0, none⟩) 0 0) 0 []) := World.ownsRow_lit (base := w.heap.size) (e := 62) (size := 2) w #[] 0 (Nat.le_refl _) (Nat.zero_le _) rfl
    have HRX := Lib.hid (HR.out.alloc HHI.out (.cells #[] 62))
    have hz3 : ((.agg #[.int .i64 0, .int .i64 0]) : Value).cells.size = 2 := rfl
    go_enter Try.func34, Try.ntmps34
    go_wp2_with (at_builtin; refine wpList_append_rdk (P := Try.prog) rfl _ _ 26 rfl w.heap.size 62 i0 _ 2 16 Try.underlying26 hi0 hz0 hz1 hz2 hz3 (by omega) _ 0 [] rfl HOW.out (some ad) n c xs rfl (fun h => by cases h) HX.out HRX.out HO.out (by unfold maxLen; omega) (by omega) (by simp) ?_)
    intro v2 w2 hown2 hgrow2 _
    have HB : Hid (Below w.heap.size w w2) := ((Below.refl w.heap.size w).alloc (Nat.le_refl _) _).grown hgrow2 (by simp) fun g hg => by simp [Value.ownBlock] at hg; omega
    have HO2 : Hid (w2.ownsRow w.heap.size 62 2 v2 n xs) := by show World.ownsRow _ _ _ _ _ _ _; simpa using hown2
    clear hown2 hgrow2
    go_wp2
    go_ret
    exact ⟨_, rfl, HO2.out, HB.out⟩
theorem clonek_own (v : Value) (xs : List Value) (n base : Nat) (w : World) (h : w.ownsRow base 62 2 v n xs) (h1 : ∀ u ∈ xs, u.oneCell' = true) (hm : n ≤ 100000) :
    Calls Try.prog 34 #[v] w fun e w' => ∃ v, e = .returned v ∧ w'.ownsRow w.heap.size 62 2 v n xs ∧ Below w.heap.size w w' := by
  obtain ⟨A, c, rfl, _, _, hA⟩ := ownk_form h
  exact clonek_any A xs n c base w.heap.size w (ownk_rd h) (Nat.le_refl _) h.1 h1 hA hm

set_option maxHeartbeats 400000 in
theorem clonet_any (A : Option Addr) (xs : List Value) (n c lo hi : Nat) (w : World) (h : Rd w lo hi A xs) (hhi : hi ≤ w.heap.size) (hl : xs.length = n * 1) (h1 : ∀ u ∈ xs, u.oneCell' = true) (hA : A = none → c = 0) (hm : n ≤ 100000) :
    Calls Try.prog 35 #[.slice A n c] w fun e w' => ∃ v, e = .returned v ∧ w'.ownsRow w.heap.size 4 1 v n xs ∧ Below w.heap.size w w' := by
  obtain ⟨i0, hi0, hz0, hz1, hz2⟩ := info_parts info_tf
  have HR := Lib.hid h
  have HX := Lib.hid hl
  have HO := Lib.hid h1
  have HHI := Lib.hid hhi
  clear h hl h1 hhi
  have hnil := Lib.run_eql_slice_nil (P := Try.prog) w 27 4 A n c 0 0 Try.underlying27
  rcases A with _ | ad
  · have HL : Hid (xs = [] ∧ n = 0) := by
      have h1 : xs = [] := by
        rcases xs with _ | ⟨u, r⟩
        · rfl
        · obtain ⟨_, e, _⟩ := HR.out 0 u rfl
          cases e
      refine ⟨h1, ?_⟩
      have := HX.out
      rw [h1] at this
      simp at this
      omega
    clear hA
    go_enter Try.func35, Try.ntmps35
    go_wp2
    go_ret
    exact ⟨_, rfl, by rw [HL.out.1, HL.out.2]; exact World.ownsRow_nil _ _ _ _, Below.refl _ _⟩
  · clear hA
    have HOW : Hid ((w.alloc (.cells #[] 4)).ownsRow w.heap.size 4 1 (.slice (some ⟨w.heap.size, 0, none⟩) 0 0) 0 []) := World.ownsRow_lit (base := w.heap.size) (e := 4) (size := 1) w #[] 0 (Nat.le_refl _) (Nat.zero_le _) rfl
    have HRX := Lib.hid (HR.out.alloc HHI.out (.cells #[] 4))
    have hz3 : ((.bool false) : Value).cells.size = 1 := rfl
    go_enter Try.func35, Try.ntmps35
    go_wp2_with (at_builtin; refine wpList_append_rdk (P := Try.prog) rfl _ _ 27 rfl w.heap.size 4 i0 _ 1 1 Try.underlying27 hi0 hz0 hz1 hz2 hz3 (by omega) _ 0 [] rfl HOW.out (some ad) n c xs rfl (fun h => by cases h) HX.out HRX.out HO.out (by unfold maxLen; omega) (by omega) (by simp) ?_)
    intro v2 w2 hown2 hgrow2 _
    have HB : Hid (Below w.heap.size w w2) := ((Below.refl w.heap.size w).alloc (Nat.le_refl _) _).grown hgrow2 (by simp) fun g hg => by simp [Value.ownBlock] at hg; omega
    have HO2 : Hid (w2.ownsRow w.heap.size 4 1 v2 n xs) := by show World.ownsRow _ _ _ _ _ _ _; simpa using hown2
    clear hown2 hgrow2
    go_wp2
    go_ret
    exact ⟨_, rfl, HO2.out, HB.out⟩
theorem clonet_own (v : Value) (xs : List Value) (n base : Nat) (w : World) (h : w.ownsRow base 4 1 v n xs) (h1 : ∀ u ∈ xs, u.oneCell' = true) (hm : n ≤ 100000) :
    Calls Try.prog 35 #[v] w fun e w' => ∃ v, e = .returned v ∧ w'.ownsRow w.heap.size 4 1 v n xs ∧ Below w.heap.size w w' := by
  obtain ⟨A, c, rfl, _, _, hA⟩ := ownk_form h
  exact clonet_any A xs n c base w.heap.size w (ownk_rd h) (Nat.le_refl _) h.1 h1 hA hm

set_option maxHeartbeats 400000 in
theorem clone_any (B : List UInt8) (Lk : List Bk) (D : List Bool) (base : Nat) (v : Value) (w : World) (h : Hp base B Lk D v w) (hB : B.length ≤ 100000) (hL : Lk.length ≤ 100000) (hD : D.length ≤ 100000) :
    Calls Try.prog 17 #[v] w fun e w' => ∃ v', e = .returned v' ∧ Hp w.heap.size B Lk D v' w' ∧ Below w.heap.size w w' := by
  obtain ⟨v1, v2, v3, rfl, hv⟩ := h
  obtain ⟨nb, hnb⟩ : ∃ n, B.length = n := ⟨_, rfl⟩
  obtain ⟨nk, hnk⟩ : ∃ n, Lk.length = n := ⟨_, rfl⟩
  obtain ⟨nt, hnt⟩ : ∃ n, D.length = n := ⟨_, rfl⟩
  obtain ⟨A1, c1, A2, c2, A3, c3, e1, e2, e3⟩ := hv.forms
  have hO1 : v1.oneCell' = true := ownk_one hv.1
  have hO2 : v2.oneCell' = true := ownk_one hv.2.1
  have hO3 : v3.oneCell' = true := ownk_one hv.2.2
  have HNB := Lib.hid hnb
  have HNK := Lib.hid hnk
  have HNT := Lib.hid hnt
  unfold HpV at hv
  rw [hnb, hnk, hnt] at hv
  rw [hnb] at hB
  rw [hnk] at hL
  rw [hnt] at hD
  have HV := Lib.hid hv
  clear hv hnb hnk hnt e1 e2 e3
  go_enter Try.func17, Try.ntmps17
  go_wp2_with fail
  obtain ⟨w1, hw1⟩ : ∃ w1, (w.alloc (.cells #[v1, v2, v3] 29)).alloc (.cells #[.slice none 0 0, .slice none 0 0, .slice none 0 0] 29) = w1 := ⟨_, rfl⟩
  rw [hw1]
  have HG1 : Hid (w1.heap[w.heap.size]? = some (.cells #[v1, v2, v3] 29 (0, 0))) := by rw [← hw1]; exact old_alloc (heap_alloc_new w _) _
  have HG2 : Hid (w1.heap[w.heap.size + 1]? = some (.cells #[.slice none 0 0, .slice none 0 0, .slice none 0 0] 29 (0, 0))) := by
    rw [← hw1]
    have := heap_alloc_new (w.alloc (.cells #[v1, v2, v3] 29)) (.cells #[.slice none 0 0, .slice none 0 0, .slice none 0 0] 29)
    rwa [World.size_alloc] at this
  have HB1 : Hid (Below w.heap.size w w1) := by rw [← hw1]; exact ((Below.refl _ _).alloc (Nat.le_refl _) _).alloc (by simp) _
  have HZ1 : Hid (w1.heap.size = w.heap.size + 2) := by rw [← hw1]; show _ = _; simp
  have HV1 : Hid (w1.ownsRow base 5 1 v1 nb (cells B) ∧ w1.ownsRow base 62 2 v2 nk (bks Lk) ∧ w1.ownsRow base 4 1 v3 nt (tfs D)) := ⟨ownk_below HV.out.1 HB1.out (Nat.le_refl _), ownk_below HV.out.2.1 HB1.out (Nat.le_refl _), ownk_below HV.out.2.2 HB1.out (Nat.le_refl _)⟩
  clear hw1
  apply wp_region_relyL [] (fun _ w' => Below w1.heap.size w1 w') (RL [Is _, Is _, OwnR w1.heap.size 5 1 nb (cells B), Is _, Is _, OwnR w1.heap.size 62 2 nk (bks Lk), Is _, Is _, OwnR w1.heap.size 4 1 nt (tfs D), fun v w => ∃ y1 y2 y3, v = .agg #[y1, y2, y3] ∧ (OwnR w1.heap.size 5 1 nb (cells B) : Pred) y1 w ∧ (OwnR w1.heap.size 62 2 nk (bks Lk) : Pred) y2 w ∧ (OwnR w1.heap.size 4 1 nt (tfs D) : Pred) y3 w]) [false, false, false, true, true, true, true, true, true, true, true, true, true] _ rfl
  · kernel_rfl
  · kernel_rfl
  · kernel_rfl
  · kernel_rfl
  · refine ⟨?_, ?_, ?_, ?_, ?_, ?_, ?_, ?_, ?_, ?_, trivial⟩
    · intro L ev w' hC hL hx K hK
      have e1 : ev (.tmp 1) = _ := hx.base 1 (by kernel_rfl)
      have HK := Lib.hid hK
      have HC := Lib.hid hC
      have HL := Lib.hid hL
      have HX := Lib.hid hx
      have hc := hx.cst
      skip
      clear hx hK hC hL
      unfold Run
      simp [execOp, Upon, go_sem, *]
      exact HK.out _ _ (.inl ⟨Below.refl _ _, by decide⟩) rfl
    · intro L ev w' hC hL hx K hK
      have e3 := hx.held 0 _ rfl (by kernel_rfl)
      change ev (.tmp 3) = _ at e3
      have HK := Lib.hid hK
      have HC := Lib.hid hC
      have HL := Lib.hid hL
      have HX := Lib.hid hx
      have hc := hx.cst
      skip
      clear hx hK hC hL
      have hcs := three_cells (old_below HG1.out HC.out (row_lt HG1.out))
      have c0 := hcs.1
      have c1 := hcs.2.1
      have c2 := hcs.2.2
      clear hcs
      unfold Run
      simp [execOp, Upon, go_sem, *]
      exact HK.out _ _ (.inl ⟨Below.refl _ _, by decide⟩) rfl
    · intro L ev w' hC hL hx K hK
      have e4 := hx.held 1 _ rfl (by kernel_rfl)
      change ev (.tmp 4) = _ at e4
      have HK := Lib.hid hK
      have HC := Lib.hid hC
      have HL := Lib.hid hL
      have HX := Lib.hid hx
      have hc := hx.cst
      have hf := hx.fn
      clear hx hK hC hL
      unfold Run
      simp [execOp, Upon, go_sem, *]
      refine (cloneb_own v1 (cells B) nb base w' (ownk_below HV1.out.1 HC.out (Nat.le_refl _)) (cells_one B) (by omega)).mono ?_
      rintro e w2 ⟨v, rfl, ho, hb⟩
      exact ⟨v, rfl, HK.out _ _ (.inl ⟨hb, by decide⟩) (ownk_base ho HC.out.size)⟩
    · intro L ev w' hC hL hx K hK
      have e1 : ev (.tmp 1) = _ := hx.base 1 (by kernel_rfl)
      have HK := Lib.hid hK
      have HC := Lib.hid hC
      have HL := Lib.hid hL
      have HX := Lib.hid hx
      have hc := hx.cst
      skip
      clear hx hK hC hL
      unfold Run
      simp [execOp, Upon, go_sem, *]
      exact HK.out _ _ (.inl ⟨Below.refl _ _, by decide⟩) rfl
    · intro L ev w' hC hL hx K hK
      have e6 := hx.held 3 _ rfl (by kernel_rfl)
      change ev (.tmp 6) = _ at e6
      have HK := Lib.hid hK
      have HC := Lib.hid hC
      have HL := Lib.hid hL
      have HX := Lib.hid hx
      have hc := hx.cst
      skip
      clear hx hK hC hL
      have hcs := three_cells (old_below HG1.out HC.out (row_lt HG1.out))
      have c0 := hcs.1
      have c1 := hcs.2.1
      have c2 := hcs.2.2
      clear hcs
      unfold Run
      simp [execOp, Upon, go_sem, *]
      exact HK.out _ _ (.inl ⟨Below.refl _ _, by decide⟩) rfl
    · intro L ev w' hC hL hx K hK
      have e7 := hx.held 4 _ rfl (by kernel_rfl)
      change ev (.tmp 7) = _ at e7
      have HK := Lib.hid hK
      have HC := Lib.hid hC
      have HL := Lib.hid hL
      have HX := Lib.hid hx
      have hc := hx.cst
      have hf := hx.fn
      clear hx hK hC hL
      unfold Run
      simp [execOp, Upon, go_sem, *]
      refine (clonek_own v2 (bks Lk) nk base w' (ownk_below HV1.out.2.1 HC.out (Nat.le_refl _)) (bks_one Lk) (by omega)).mono ?_
      rintro e w2 ⟨v, rfl, ho, hb⟩
      exact ⟨v, rfl, HK.out _ _ (.inl ⟨hb, by decide⟩) (ownk_base ho HC.out.size)⟩
    · intro L ev w' hC hL hx K hK
      have e1 : ev (.tmp 1) = _ := hx.base 1 (by kernel_rfl)
      have HK := Lib.hid hK
      have HC := Lib.hid hC
      have HL := Lib.hid hL
      have HX := Lib.hid hx
      have hc := hx.cst
      skip
      clear hx hK hC hL
      unfold Run
      simp [execOp, Upon, go_sem, *]
      exact HK.out _ _ (.inl ⟨Below.refl _ _, by decide⟩) rfl
    · intro L ev w' hC hL hx K hK
      have e9 := hx.held 6 _ rfl (by kernel_rfl)
      change ev (.tmp 9) = _ at e9
      have HK := Lib.hid hK
      have HC := Lib.hid hC
      have HL := Lib.hid hL
      have HX := Lib.hid hx
      have hc := hx.cst
      skip
      clear hx hK hC hL
      have hcs := three_cells (old_below HG1.out HC.out (row_lt HG1.out))
      have c0 := hcs.1
      have c1 := hcs.2.1
      have c2 := hcs.2.2
      clear hcs
      unfold Run
      simp [execOp, Upon, go_sem, *]
      exact HK.out _ _ (.inl ⟨Below.refl _ _, by decide⟩) rfl
    · intro L ev w' hC hL hx K hK
      have e10 := hx.held 7 _ rfl (by kernel_rfl)
      change ev (.tmp 10) = _ at e10
      have HK := Lib.hid hK
      have HC := Lib.hid hC
      have HL := Lib.hid hL
      have HX := Lib.hid hx
      have hc := hx.cst
      have hf := hx.fn
      clear hx hK hC hL
      unfold Run
      simp [execOp, Upon, go_sem, *]
      refine (clonet_own v3 (tfs D) nt base w' (ownk_below HV1.out.2.2 HC.out (Nat.le_refl _)) (tfs_one D) (by omega)).mono ?_
      rintro e w2 ⟨v, rfl, ho, hb⟩
      exact ⟨v, rfl, HK.out _ _ (.inl ⟨hb, by decide⟩) (ownk_base ho HC.out.size)⟩
    · intro L ev w' hC hL hx K hK
      have e5 := hx.held 2 _ rfl (by kernel_rfl)
      have e8 := hx.held 5 _ rfl (by kernel_rfl)
      have e11 := hx.held 8 _ rfl (by kernel_rfl)
      change (OwnR w1.heap.size 5 1 nb (cells B) : Pred) (ev (.tmp 5)) w' at e5
      change (OwnR w1.heap.size 62 2 nk (bks Lk) : Pred) (ev (.tmp 8)) w' at e8
      change (OwnR w1.heap.size 4 1 nt (tfs D) : Pred) (ev (.tmp 11)) w' at e11
      have HK := Lib.hid hK
      have HC := Lib.hid hC
      have HL := Lib.hid hL
      have HX := Lib.hid hx
      have hc := hx.cst
      skip
      clear hx hK hC hL
      have E5 := Lib.hid e5
      have E8 := Lib.hid e8
      have E11 := Lib.hid e11
      clear e5 e8 e11
      obtain ⟨A5, c5, q5, -⟩ := ownk_form E5.out
      obtain ⟨A8, c8, q8, -⟩ := ownk_form E8.out
      obtain ⟨A11, c11, q11, -⟩ := ownk_form E11.out
      rw [q5] at E5
      rw [q8] at E8
      rw [q11] at E11
      unfold Run
      simp [execOp, Upon, go_sem, *]
      exact HK.out _ _ (.inl ⟨Below.refl _ _, by decide⟩) ⟨_, _, _, rfl, E5.out, E8.out, E11.out⟩
  · exact rl_mono ⟨is_mono _, is_mono _, ownr_mono _ _ _ _ _, is_mono _, is_mono _, ownr_mono _ _ _ _ _, is_mono _, is_mono _, ownr_mono _ _ _ _ _, fun u w w' hb ⟨y1, y2, y3, e, h1, h2, h3⟩ => ⟨y1, y2, y3, e, ownk_below h1 hb (Nat.le_refl _), ownk_below h2 hb (Nat.le_refl _), ownk_below h3 hb (Nat.le_refl _)⟩, trivial⟩
  · exact fun _ _ _ _ h => h
  · exact fun _ _ _ hb h => h.trans (hb.mono h.size)
  · exact Below.refl _ _
  · simp
  intro us wr hG hH
  obtain ⟨-, -, -, -, -, -, -, -, -, h9, -⟩ := hH
  simp only [fillM]
  change (fun v w => ∃ y1 y2 y3, v = .agg #[y1, y2, y3] ∧ (OwnR w1.heap.size 5 1 nb (cells B) : Pred) y1 w ∧ (OwnR w1.heap.size 62 2 nk (bks Lk) : Pred) y2 w ∧ (OwnR w1.heap.size 4 1 nt (tfs D) : Pred) y3 w : Pred) (us 12) wr at h9
  generalize us 3 = v3
  generalize us 4 = v4
  generalize us 5 = v5
  generalize us 6 = v6
  generalize us 7 = v7
  generalize us 8 = v8
  generalize us 9 = v9
  generalize us 10 = v10
  generalize us 11 = v11
  generalize us 12 = v12 at h9 ⊢
  obtain ⟨y1, y2, y3, rfl, h1, h2, h3⟩ := h9
  have hx2 := old_below HG2.out hG (row_lt HG2.out)
  refine wp_store_row 29 (.tmp 2) (.tmp 12) rfl (w.heap.size + 1) #[y1, y2, y3] rfl rfl 29 _ hx2 (by kernel_rfl) rfl (by simp [ownk_one h1, ownk_one h2, ownk_one h3]) ?_
  have HX3 := Lib.hid (setRow_heap wr (w.heap.size + 1) _ #[y1, y2, y3] _ _ hx2)
  have HP : Hid (HpV w.heap.size B Lk D (wr.setRow (w.heap.size + 1) #[y1, y2, y3]) y1 y2 y3) := by
    have e : HpV w.heap.size B Lk D wr y1 y2 y3 := by
      unfold HpV
      rw [HNB.out, HNK.out, HNT.out]
      exact ⟨ownk_base h1 HB1.out.size, ownk_base h2 HB1.out.size, ownk_base h3 HB1.out.size⟩
    exact e.other hx2 (by decide) (by decide) (by decide) (setRow_cells _ _ _)
  have HB3 : Hid (Below w.heap.size w (wr.setRow (w.heap.size + 1) #[y1, y2, y3])) := below_setRow (HB1.out.trans (hG.mono HB1.out.size)) (by omega) _
  clear hx2 hG h1 h2 h3
  simp only [Act.put]
  generalize wr.setRow (w.heap.size + 1) #[y1, y2, y3] = w3 at HX3 HP HB3 ⊢
  go_wp2_with fail
  refine ret_one (g := w.heap.size + 1) rfl rfl HX3.out Try.underlying29 rfl (by kernel_rfl) rfl ?_
  exact ⟨_, rfl, HP.out.shut, HB3.out⟩
end Go.Proofs.Ytagajijjcjfopaa
