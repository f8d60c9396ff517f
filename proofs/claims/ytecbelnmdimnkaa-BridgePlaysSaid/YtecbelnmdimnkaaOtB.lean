/-
  bridge.out: by which ports a frame goes out. Every bridge of at most eight ports. No condition beyond that.
-/
import Derived.Test.YtecbelnmdimnkaaOuB
namespace Go.Proofs.Ytecbelnmdimnkaa
open Go.RowKit

def outX (P : Nat) (K : List Ln) (q : Nat) (a : Mac) : List Nat := if (findX K a).2 = true ∧ a ≠ allM then keepP [(findX K a).1] q else keepP (List.range P) q

set_option maxRecDepth 100000 in
set_option maxHeartbeats 4000000 in
theorem out_any (v : Value) (P : Nat) (K : List Ln) (q : Nat) (a : Mac) (w : World) (hv : BrT w v P K) (hl : K.length ≤ 1000) (hP : P ≤ 8) :
    Calls Try.prog 21 #[v, .int .i64 (q : Int), .agg (macA a)] w fun e w' => ∃ v', e = .returned v' ∧ w'.ownsRow w.heap.size 3 1 v' (outX P K q a).length (ints (outX P K q a)) ∧ Below w.heap.size w w' := by
  obtain ⟨s, rfl, hk⟩ := hv
  obtain ⟨w1, hw1⟩ : ∃ w1, (w.alloc (.cells #[.int .i64 (P : Int), s] 27)).alloc (.cells (macA a) 46) = w1 := ⟨_, rfl⟩
  have HB1 : Hid (Below w.heap.size w w1) := by rw [← hw1]; exact ((Below.refl _ _).alloc (Nat.le_refl _) _).alloc (by simp) _
  have HN1 : Hid (w1.heap[w.heap.size]? = some (.cells #[.int .i64 (P : Int), s] 27 (0, 0))) := by rw [← hw1]; exact old_alloc (heap_alloc_new w _) _
  have HX1 : Hid (w1.heap[w.heap.size + 1]? = some (.cells (macA a) 46 (0, 0))) := by rw [← hw1]; exact new_at1 w _ _
  have HBR : Hid (BrT w1 (.agg #[.int .i64 (P : Int), s]) P K) := ⟨s, rfl, hk.below HB1.out⟩
  have HW := Lib.hid hw1
  have HL := Lib.hid hl
  have HPP := Lib.hid hP
  have hso := hk.one
  obtain ⟨i0, hi0, hz0, hz1, hz2⟩ := info_parts info_in
  have HI := Lib.hid (And.intro hi0 (And.intro hz0 (And.intro hz1 hz2)))
  clear hk hw1 hl hi0 hz0 hz1 hz2
  go_enter Try.func21, Try.ntmps21
  go_upto_region 1 with (fail)
  rw [HW.out]
  clear HW
  generalize w.heap.size + 1 = b at HX1 ⊢
  obtain ⟨N, hN⟩ : ∃ N, w.heap.size = N := ⟨_, rfl⟩
  rw [hN] at HB1 HN1 ⊢
  have HLT : Hid (N ≤ w1.heap.size) := by rw [← hN]; exact HB1.out.size
  have HNE := Lib.hid hN
  clear hN
  go_wp2_with (first | refine wpList_load_row rfl 27 _ rfl N rfl 27 #[.int .i64 (P : Int), s] (0, 0) _ HN1.out Try.underlying27 rfl (by kernel_rfl) ?_ | refine wpList_load_row rfl 46 _ rfl b rfl 46 (macA a) (0, 0) _ HX1.out Try.underlying46 rfl (by kernel_rfl) ?_)
  refine (find_any _ P K a w1 HBR.out HL.out).mono ?_
  rintro e w2 ⟨rfl, hb⟩
  have HB2 : Hid (Below N w w2) := HB1.out.trans (hb.mono HLT.out)
  have HN2 := Lib.hid (old_below HN1.out hb (row_lt HN1.out))
  have HX2 := Lib.hid (old_below HX1.out hb (row_lt HX1.out))
  have HLT2 : Hid (N ≤ w2.heap.size) := Nat.le_trans HLT.out hb.size
  clear hb HB1 HN1 HX1 HLT HBR
  obtain ⟨p, hp⟩ : ∃ p, (findX K a).1 = p := ⟨_, rfl⟩
  obtain ⟨kn, hkn⟩ : ∃ kn, (findX K a).2 = kn := ⟨_, rfl⟩
  have HO : Hid (outX P K q a = if kn = true ∧ a ≠ allM then keepP [p] q else keepP (List.range P) q) := by
    show _ = _
    unfold outX
    rw [hp, hkn]
  rw [hp, hkn]
  clear hp hkn
  go_upto_region 2 with (fail)
  have KX : Hid (∀ w', Reg w2 w' → w'.heap[b]? = some (.cells (macA a) 46 (0, 0))) := reg_row HX2.out
  have hall : ∀ d os, Calls Try.prog 16 #[] (Sort.grow (redrawn w2 d) os) fun e w'' => e = .returned (.agg (macA allM)) ∧ ∃ p : Regrown, w'' = Sort.grow (redrawn w2 p.d) p.os := fun d os => Calls.regrown_of (all_any _)
  have HALL := Lib.hid hall
  clear hall
  have heq : ∀ w, (Op.equalIn 10000 46 (.agg (macA a)) (.agg (macA allM))).run Try.prog w = .ok (decide (a = allM)) w := eq_mac 9998 a allM
  have hcase : (kn = true ∧ decide (a = allM) = false ∧ outX P K q a = keepP [p] q) ∨ (kn = true ∧ decide (a = allM) = true ∧ outX P K q a = keepP (List.range P) q) ∨ (kn = false ∧ outX P K q a = keepP (List.range P) q) := by
    cases kn
    · exact .inr (.inr ⟨rfl, by rw [HO.out, if_neg (by simp)]⟩)
    · by_cases h : a = allM
      · exact .inr (.inl ⟨rfl, decide_eq_true h, by rw [HO.out, if_neg (by simp [h])]⟩)
      · exact .inl ⟨rfl, decide_eq_false h, by rw [HO.out, if_pos ⟨rfl, h⟩]⟩
  clear HO
  rcases hcase with ⟨rfl, hd, ho⟩ | ⟨rfl, hd, ho⟩ | ⟨rfl, ho⟩
  · rw [hd] at heq
    have HOX := Lib.hid ho
    clear hd ho
    refine wp_region_quiet_below (by kernel_rfl) (by kernel_rfl) ?_
    iterate 2 (quiet_step (fail))
    (refine wpQuiet_step (fun K hK => ?_); refine quiet_load_row (by rfl) 46 _ rfl b rfl _ (macA a) _ _ KX.out Try.underlying46 rfl (by kernel_rfl) ?_; refine hK _ ?_; clear hK K)
    repeat (first | go_big_quiet_step (first | (go_at_call 16; exact HALL.out _ _)) | quiet_step (first | (go_at_call 16; exact HALL.out _ _)))
    refine wpQuiet_nil ?_
    intro w3 hw'
    obtain ⟨⟨dq, osq⟩, rfl⟩ := hw'
    have hb3 := below_regrown w2 dq osq
    generalize Sort.grow (redrawn w2 dq) osq = w3 at hb3 ⊢
    have HB3 : Hid (Below N w w3) := HB2.out.trans (hb3.mono HLT2.out)
    have HLT3 : Hid (N ≤ w3.heap.size) := Nat.le_trans HLT2.out hb3.size
    have HN3 := Lib.hid (old_below HN2.out hb3 (row_lt HN2.out))
    clear hb3 heq KX HALL HB2 HN2 HX2 HLT2
    have HO3 : Hid ((w3.alloc (.cells #[.int .i64 (p : Int)] 3)).ownsRow N 3 1 (.slice (some ⟨w3.heap.size, 0, none⟩) 1 1) [p].length (ints [p])) := own_lit w3 [.int .i64 (p : Int)] _ _ _ 1 rfl HLT3.out (by decide) rfl
    go_wp2_with fail
    refine (exc_any _ [p] q N _ HO3.out (by simp) (by have := HLT3.out; simp; omega)).mono ?_
    rintro e w4 ⟨v4, rfl, hown4, hb4⟩
    have HB4 : Hid (Below N w w4) := (HB3.out.alloc HLT3.out _).trans hb4
    have HO4 := Lib.hid hown4
    clear hown4 hb4
    go_wp2
    go_ret
    exact ⟨_, rfl, by rw [HNE.out, HOX.out]; exact HO4.out, by rw [HNE.out]; exact HB4.out⟩
  · rw [hd] at heq
    have HOX := Lib.hid ho
    clear hd ho
    refine wp_region_quiet_below (by kernel_rfl) (by kernel_rfl) ?_
    iterate 2 (quiet_step (fail))
    (refine wpQuiet_step (fun K hK => ?_); refine quiet_load_row (by rfl) 46 _ rfl b rfl _ (macA a) _ _ KX.out Try.underlying46 rfl (by kernel_rfl) ?_; refine hK _ ?_; clear hK K)
    repeat (first | go_big_quiet_step (first | (go_at_call 16; exact HALL.out _ _)) | quiet_step (first | (go_at_call 16; exact HALL.out _ _)))
    refine wpQuiet_nil ?_
    intro w3 hw'
    obtain ⟨⟨dq, osq⟩, rfl⟩ := hw'
    have hb3 := below_regrown w2 dq osq
    generalize Sort.grow (redrawn w2 dq) osq = w3 at hb3 ⊢
    have HB3 : Hid (Below N w w3) := HB2.out.trans (hb3.mono HLT2.out)
    have HLT3 : Hid (N ≤ w3.heap.size) := Nat.le_trans HLT2.out hb3.size
    have HN3 := Lib.hid (old_below HN2.out hb3 (row_lt HN2.out))
    clear hb3 heq KX HALL HB2 HN2 HX2 HLT2
    go_wp2_with (refine wpList_load_row rfl 27 _ rfl N rfl 27 #[.int .i64 (P : Int), s] (0, 0) _ HN3.out Try.underlying27 rfl (by kernel_rfl) ?_)
    refine (ports_any P s w3 HPP.out).mono ?_
    rintro e w4 ⟨rfl, hb⟩
    have HB4 : Hid (Below N w w4) := HB3.out.trans (hb.mono HLT3.out)
    have HLT4 : Hid (N ≤ w4.heap.size) := Nat.le_trans HLT3.out hb.size
    clear hb HB3 HN3 HLT3
    go_wp2
    go_loopw [9, 10, 29] (fun t9 _ t29 wr => ∃ k : Nat, k ≤ P ∧ t29 = .int .i64 (k : Int) ∧ Hid (wr.ownsRow N 3 1 t9 k (ints (List.range k))) ∧ Hid (Below N w wr) ∧ Hid (N ≤ wr.heap.size)) (fun _ _ t29 _ => P - (intOf t29).toNat)
    case atStart => exact ⟨0, Nat.zero_le _, rfl, World.ownsRow_nil _ _ _ _, HB4, HLT4⟩
    case round =>
      obtain ⟨k, hk, rfl, HOW, HBE, HLE⟩ := hrel
      generalize u9 = v9 at HOW ⊢
      clear HB4 HLT4
      by_cases hlt : k < P
      · obtain ⟨hi0, hz0, hz1, hz2⟩ := HI.out
        go_wp2_with (at_builtin; refine wpList_append_elem rfl _ _ 36 rfl N 3 i0 _ 1 8 Try.underlying36 hi0 hz0 hz1 hz2 rfl (by decide) v9 k (ints (List.range k)) rfl (ownk_below HOW.out ((Below.refl _ _).alloc (Nat.le_refl _) _) (Nat.le_refl _)) wr.heap.size 1 #[.int .i64 (k : Int)] 3 (0, 0) rfl (heap_alloc_new wr _) rfl (fun u hu => by simp at hu; subst hu; rfl) (by unfold maxLen; omega) (by omega) (by have := HLE.out; simp; omega) ?_; intro v6 w6 hown6 hgrow6 _; have HOW6 := Lib.hid hown6; have HGW6 := Lib.hid hgrow6; clear hown6 hgrow6)
        have HB6 : Hid (Below N w w6) := (HBE.out.alloc HLE.out _).grown HGW6.out (by have := HLE.out; simp; omega) fun g hg => (HOW.out.lt g hg).1
        have HL6 : Hid (N ≤ w6.heap.size) := Nat.le_trans HLE.out (Nat.le_trans (by simp) HGW6.out.size)
        have HO6 : Hid (w6.ownsRow N 3 1 v6 (k + 1) (ints (List.range (k + 1)))) := by
          show World.ownsRow _ _ _ _ _ _ _
          rw [List.range_succ, ints_append]
          exact HOW6.out
        clear hi0 hz0 hz1 hz2 HOW6 HGW6
        go_wp2
        go_roundw
        case rel => exact ⟨k + 1, by omega, by go_num, HO6, HB6, HL6⟩
        case measure => simp [intOf]; omega
      · obtain rfl : k = P := by omega
        have HO5 : Hid (wr.ownsRow N 3 1 v9 (List.range k).length (ints (List.range k))) := by
          show World.ownsRow _ _ _ _ _ _ _
          rw [List.length_range]
          exact HOW.out
        go_wp2_with fail
        refine (exc_any v9 (List.range k) q N wr HO5.out (by rw [List.length_range]; have := HPP.out; omega) HLE.out).mono ?_
        rintro e w7 ⟨v7, rfl, hown7, hb7⟩
        have HB7 : Hid (Below N w w7) := HBE.out.trans hb7
        have HO7 := Lib.hid hown7
        clear hown7 hb7
        go_wp2
        go_ret
        exact ⟨_, rfl, by rw [HNE.out, HOX.out]; exact HO7.out, by rw [HNE.out]; exact HB7.out⟩
  · have HOX := Lib.hid ho
    clear ho
    refine wp_region_quiet_below (by kernel_rfl) (by kernel_rfl) ?_
    repeat (quiet_step (fail))
    refine wpQuiet_nil ?_
    intro w3 hw'
    obtain ⟨⟨dq, osq⟩, rfl⟩ := hw'
    have hb3 := below_regrown w2 dq osq
    generalize Sort.grow (redrawn w2 dq) osq = w3 at hb3 ⊢
    have HB3 : Hid (Below N w w3) := HB2.out.trans (hb3.mono HLT2.out)
    have HLT3 : Hid (N ≤ w3.heap.size) := Nat.le_trans HLT2.out hb3.size
    have HN3 := Lib.hid (old_below HN2.out hb3 (row_lt HN2.out))
    clear hb3 heq KX HALL HB2 HN2 HX2 HLT2
    go_wp2_with (refine wpList_load_row rfl 27 _ rfl N rfl 27 #[.int .i64 (P : Int), s] (0, 0) _ HN3.out Try.underlying27 rfl (by kernel_rfl) ?_)
    refine (ports_any P s w3 HPP.out).mono ?_
    rintro e w4 ⟨rfl, hb⟩
    have HB4 : Hid (Below N w w4) := HB3.out.trans (hb.mono HLT3.out)
    have HLT4 : Hid (N ≤ w4.heap.size) := Nat.le_trans HLT3.out hb.size
    clear hb HB3 HN3 HLT3
    go_wp2
    go_loopw [9, 10, 29] (fun t9 _ t29 wr => ∃ k : Nat, k ≤ P ∧ t29 = .int .i64 (k : Int) ∧ Hid (wr.ownsRow N 3 1 t9 k (ints (List.range k))) ∧ Hid (Below N w wr) ∧ Hid (N ≤ wr.heap.size)) (fun _ _ t29 _ => P - (intOf t29).toNat)
    case atStart => exact ⟨0, Nat.zero_le _, rfl, World.ownsRow_nil _ _ _ _, HB4, HLT4⟩
    case round =>
      obtain ⟨k, hk, rfl, HOW, HBE, HLE⟩ := hrel
      generalize u9 = v9 at HOW ⊢
      clear HB4 HLT4
      by_cases hlt : k < P
      · obtain ⟨hi0, hz0, hz1, hz2⟩ := HI.out
        go_wp2_with (at_builtin; refine wpList_append_elem rfl _ _ 36 rfl N 3 i0 _ 1 8 Try.underlying36 hi0 hz0 hz1 hz2 rfl (by decide) v9 k (ints (List.range k)) rfl (ownk_below HOW.out ((Below.refl _ _).alloc (Nat.le_refl _) _) (Nat.le_refl _)) wr.heap.size 1 #[.int .i64 (k : Int)] 3 (0, 0) rfl (heap_alloc_new wr _) rfl (fun u hu => by simp at hu; subst hu; rfl) (by unfold maxLen; omega) (by omega) (by have := HLE.out; simp; omega) ?_; intro v6 w6 hown6 hgrow6 _; have HOW6 := Lib.hid hown6; have HGW6 := Lib.hid hgrow6; clear hown6 hgrow6)
        have HB6 : Hid (Below N w w6) := (HBE.out.alloc HLE.out _).grown HGW6.out (by have := HLE.out; simp; omega) fun g hg => (HOW.out.lt g hg).1
        have HL6 : Hid (N ≤ w6.heap.size) := Nat.le_trans HLE.out (Nat.le_trans (by simp) HGW6.out.size)
        have HO6 : Hid (w6.ownsRow N 3 1 v6 (k + 1) (ints (List.range (k + 1)))) := by
          show World.ownsRow _ _ _ _ _ _ _
          rw [List.range_succ, ints_append]
          exact HOW6.out
        clear hi0 hz0 hz1 hz2 HOW6 HGW6
        go_wp2
        go_roundw
        case rel => exact ⟨k + 1, by omega, by go_num, HO6, HB6, HL6⟩
        case measure => simp [intOf]; omega
      · obtain rfl : k = P := by omega
        have HO5 : Hid (wr.ownsRow N 3 1 v9 (List.range k).length (ints (List.range k))) := by
          show World.ownsRow _ _ _ _ _ _ _
          rw [List.length_range]
          exact HOW.out
        go_wp2_with fail
        refine (exc_any v9 (List.range k) q N wr HO5.out (by rw [List.length_range]; have := HPP.out; omega) HLE.out).mono ?_
        rintro e w7 ⟨v7, rfl, hown7, hb7⟩
        have HB7 : Hid (Below N w w7) := HBE.out.trans hb7
        have HO7 := Lib.hid hown7
        clear hown7 hb7
        go_wp2
        go_ret
        exact ⟨_, rfl, by rw [HNE.out, HOX.out]; exact HO7.out, by rw [HNE.out]; exact HB7.out⟩
end Go.Proofs.Ytecbelnmdimnkaa
