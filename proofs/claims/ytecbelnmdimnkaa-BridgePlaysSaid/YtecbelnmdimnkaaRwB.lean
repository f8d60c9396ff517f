/-
  The document's Forward: every bridge that saw at most a thousand cards, every port, every text. No other condition.
-/
import Derived.Test.YtecbelnmdimnkaaRfB
import Derived.Test.YtecbelnmdimnkaaCdB
namespace Go.Proofs.Ytecbelnmdimnkaa
open Go.RowKit

/-- what is seen then; by which ports it goes out -/
def refS (S : List Ln) (q : Nat) (F : List UInt8) : List Ln := if (macOf F 6).x0.toNat % 2 = 0 then S ++ [⟨macOf F 6, q⟩] else S
def refG (q : Nat) (T : Int) (i : Nat) : Bool := decide (i ≠ q) && (decide (T < 0) || decide (T = (i : Int)))
def refX (P : Nat) (S : List Ln) (z : Int) (F : List UInt8) : List Ln × List Nat × Int :=
  if z < 0 ∨ (P : Int) ≤ z then (S, [], 1) else if F.length < 14 then (S, [], 6) else (refS S z.toNat F, (List.range P).filter (refG z.toNat (toX (KF (refS S z.toNat F)) (macOf F 0))), 0)
theorem refS_len (S : List Ln) (q : Nat) (F : List UInt8) : (refS S q F).length ≤ S.length + 1 := by
  unfold refS
  split <;> simp
theorem filter_range (f : Nat → Bool) (i : Nat) : (List.range (i + 1)).filter f = (List.range i).filter f ++ (if f i = true then [i] else []) := by
  rw [List.range_succ, List.filter_append]
  congr 1
  cases h : f i <;> simp [h]
theorem filter_range_le (f : Nat → Bool) (i : Nat) : ((List.range i).filter f).length ≤ i := Nat.le_trans (List.length_filter_le _ _) (by simp)
set_option maxRecDepth 100000 in
set_option maxHeartbeats 8000000 in
theorem reffw_any (v : Value) (P : Nat) (S : List Ln) (z : Int) (F : List UInt8) (w : World) (hv : BrT w v P S) (hl : S.length ≤ 900) (hP : P ≤ 8) (hF : F.length ≤ 100000) :
    Calls Try.prog 11 #[v, .int .i64 z, .string ⟨F.toArray⟩] w (FwPost w P (refX P S z F)) := by
  obtain ⟨s, rfl, hk⟩ := hv
  obtain ⟨As, cs, rfl, htr, hAs, hnc, hcs⟩ := id hk
  obtain ⟨k, hkl⟩ : ∃ k, S.length = k := ⟨_, rfl⟩
  rw [hkl] at hl hk hnc ⊢
  have hcs2 : cs ≤ 9223372036854775807 := by unfold maxLen at hcs; omega
  obtain ⟨w1, hw1⟩ : ∃ w1, (w.alloc (.cells #[.int .i64 (P : Int), .slice As k cs] 32)).alloc (.cells B2 32) = w1 := ⟨_, rfl⟩
  have HB1 : Hid (Below w.heap.size w w1) := by rw [← hw1]; exact ((Below.refl _ _).alloc (Nat.le_refl _) _).alloc (by simp) _
  have HN1 : Hid (w1.heap[w.heap.size]? = some (.cells #[.int .i64 (P : Int), .slice As k cs] 32 (0, 0))) := by rw [← hw1]; exact old_alloc (heap_alloc_new w _) _
  have HM1 : Hid (w1.heap[w.heap.size + 1]? = some (.cells B2 32 (0, 0))) := by rw [← hw1]; exact new_at1 w _ _
  have HS1 : Hid (w1.heap.size = w.heap.size + 2) := by show _ = _; rw [← hw1]; simp
  have HKL := Lib.hid hkl
  have HK1 : Hid (KsT w1 (.slice As k cs) S) := hk.below HB1.out
  have HAS : Hid (As = none → cs = 0) := hAs
  have HW := Lib.hid hw1
  have HPP := Lib.hid hP
  obtain ⟨n, hn⟩ : ∃ n, F.length = n := ⟨_, rfl⟩
  have HFN := Lib.hid hn
  rw [hn] at hF
  obtain ⟨c0, c1⟩ := two_cells HN1.out
  clear hw1 hk htr hcs hAs hkl hP
  go_enter Try.func11, Try.ntmps11
  go_upto_region 1 with (fail)
  change Code.wp _ _ _ _ ((w.alloc (.cells #[.int .i64 (P : Int), .slice As k cs] 32)).alloc (.cells B2 32))
  rw [HW.out]
  obtain ⟨N, hN⟩ : ∃ N, w.heap.size = N := ⟨_, rfl⟩
  have HNE := Lib.hid hN
  obtain ⟨M, hM⟩ : ∃ M, w.heap.size + 1 = M := ⟨_, rfl⟩
  have HMN : Hid (M = N + 1) := by show _ = _; omega
  rw [hM] at HM1 ⊢
  rw [hN] at HN1 HB1 HS1 c0 c1 ⊢
  clear HW hN hM
  rcases Int.lt_or_le z 0 with hz | hz
  · have HX : Hid (refX P S z F = (S, [], 1)) := by show _ = _; unfold refX; rw [if_pos (.inl hz)]
    clear hn
    go_wp2_with (first | refine wpList_load_row rfl 32 _ rfl N rfl 32 #[.int .i64 (P : Int), .slice As k cs] (0, 0) _ HN1.out Try.underlying32 rfl (by kernel_rfl) ?_ | refine wpList_store_row rfl 32 _ _ rfl M #[.int .i64 (P : Int), .slice As k cs] rfl rfl 32 _ HM1.out (by kernel_rfl) rfl (B2_ones _ _ _ _) ?_)
    refine ret_three (g := M) (cs := #[.int .i64 (P : Int), .slice As k cs]) rfl rfl (setRow_heap _ _ _ _ _ _ HM1.out) Try.underlying32 rfl (by kernel_rfl) rfl ?_
    rw [HX.out]
    exact ⟨_, _, rfl, ⟨_, rfl, HK1.out.setRow HM1.out (by decide) _⟩, IsT.nil, by rw [HNE.out]; exact below_setRow HB1.out (by have := HMN.out; omega) _⟩
  obtain ⟨q, rfl⟩ := Int.eq_ofNat_of_zero_le hz
  have hz' : ¬ (q : Int) < 0 := by omega
  clear hz
  have hcase : P ≤ q ∨ (q < P ∧ n < 14) ∨ (q < P ∧ 14 ≤ n) := by omega
  rcases hcase with hq | ⟨hq, hn14⟩ | ⟨hq, hn14⟩
  · have HX : Hid (refX P S (q : Int) F = (S, [], 1)) := by show _ = _; unfold refX; rw [if_pos (.inr (by omega))]
    have hq' : (P : Int) ≤ (q : Int) := by omega
    clear hn
    go_wp2_with (first | refine wpList_load_row rfl 32 _ rfl N rfl 32 #[.int .i64 (P : Int), .slice As k cs] (0, 0) _ HN1.out Try.underlying32 rfl (by kernel_rfl) ?_ | refine wpList_store_row rfl 32 _ _ rfl M #[.int .i64 (P : Int), .slice As k cs] rfl rfl 32 _ HM1.out (by kernel_rfl) rfl (B2_ones _ _ _ _) ?_)
    refine ret_three (g := M) (cs := #[.int .i64 (P : Int), .slice As k cs]) rfl rfl (setRow_heap _ _ _ _ _ _ HM1.out) Try.underlying32 rfl (by kernel_rfl) rfl ?_
    rw [HX.out]
    exact ⟨_, _, rfl, ⟨_, rfl, HK1.out.setRow HM1.out (by decide) _⟩, IsT.nil, by rw [HNE.out]; exact below_setRow HB1.out (by have := HMN.out; omega) _⟩
  · have HX : Hid (refX P S (q : Int) F = (S, [], 6)) := by show _ = _; unfold refX; rw [if_neg (by omega), if_pos (by rw [HFN.out]; exact hn14)]
    have hq' : ¬ (P : Int) ≤ (q : Int) := by omega
    have hn' : (n : Int) < 14 := by omega
    go_wp2_with (first | refine wpList_load_row rfl 32 _ rfl N rfl 32 #[.int .i64 (P : Int), .slice As k cs] (0, 0) _ HN1.out Try.underlying32 rfl (by kernel_rfl) ?_ | refine wpList_store_row rfl 32 _ _ rfl M #[.int .i64 (P : Int), .slice As k cs] rfl rfl 32 _ HM1.out (by kernel_rfl) rfl (B2_ones _ _ _ _) ?_)
    refine ret_three (g := M) (cs := #[.int .i64 (P : Int), .slice As k cs]) rfl rfl (setRow_heap _ _ _ _ _ _ HM1.out) Try.underlying32 rfl (by kernel_rfl) rfl ?_
    rw [HX.out]
    exact ⟨_, _, rfl, ⟨_, rfl, HK1.out.setRow HM1.out (by decide) _⟩, IsT.nil, by rw [HNE.out]; exact below_setRow HB1.out (by have := HMN.out; omega) _⟩
  · have HX : Hid (refX P S (q : Int) F = (refS S q F, (List.range P).filter (refG q (toX (KF (refS S q F)) (macOf F 0))), 0)) := by show _ = _; unfold refX; rw [if_neg (by omega), if_neg (by rw [HFN.out]; omega)]; rfl
    have hq' : ¬ (P : Int) ≤ (q : Int) := by omega
    have hn' : ¬ (n : Int) < 14 := by omega
    obtain ⟨x, hx⟩ : ∃ x, F[6]? = some x := ⟨_, List.getElem?_eq_getElem (by omega)⟩
    have hx1 := (List.getElem?_eq_some_iff.1 hx).1
    have hx2 : (⟨F.toArray⟩ : ByteArray)[6]'(by show 6 < F.toArray.size; simpa using hx1) = x := (List.getElem?_eq_some_iff.1 hx).2
    have h6 : (⟨F.toArray⟩ : ByteArray)[6]? = some x := by
      rw [getElem?_pos (⟨F.toArray⟩ : ByteArray) 6 (by show 6 < F.toArray.size; simpa using hx1)]
      rw [hx2]
    have hxm : (macOf F 6).x0 = x := by
      show F.getD 6 0 = x
      rw [List.getD_eq_getElem?_getD, hx]
      rfl
    have hxl := x.toNat_lt
    rcases (show x.toNat % 2 = 0 ∨ x.toNat % 2 = 1 by omega) with hr | hr
    · have hr1 : ((x.toNat : Int)).tmod 2 = 0 := by rw [Int.tmod_eq_emod_of_nonneg (by omega)]; omega
      have hr2 : ((x.toNat : Int)) % 2 = 0 := by omega
      have HSX : Hid (refS S q F = S ++ [(⟨macOf F 6, q⟩ : Ln)]) := by show _ = _; unfold refS; rw [hxm, if_pos hr]
      have HSL : Hid ((S ++ [(⟨macOf F 6, q⟩ : Ln)]).length = k + 1) := by show _ = _; rw [List.length_append, HKL.out]; rfl
      rw [HSX.out] at HX
      go_upto_region 6 with (fail)
      clear hr1 hr2 hx hx1 h6 hx2 hxm hxl hr
      obtain ⟨i0, q0, q1, q2, q3⟩ := info_l7
      have HE2 := Lib.hid (own_empty w1 58 7)
      have HRD : Hid (Rd (w1.alloc (.cells #[] 58)) 0 (w1.alloc (.cells #[] 58)).heap.size As (lns S)) := by
        obtain ⟨A9, c9, e9, t9, -⟩ := HK1.out.alloc (.cells #[] 58)
        injection e9 with e9
        subst e9
        exact t9.rd
      have e1 := (two_cells (old_alloc HN1.out (.cells #[] 58))).2
      have HLS : Hid ((lns S).length = k * 7) := by show _ = _; rw [lns_length, HKL.out]
      go_wp2_with (at_builtin; refine wpList_append_rdk rfl _ _ 25 rfl w1.heap.size 58 i0 _ 7 16 Try.underlying25 q0 q1 q2 q3 rfl (by decide) _ 0 [] rfl HE2.out As k cs (lns S) rfl HAS.out HLS.out HRD.out (lns_one S) (by unfold maxLen; omega) (by omega) (by simp) ?_; intro v6 w6 hown6 hgrow6 hblk6; have HOW6 := Lib.hid hown6; have HGW6 := Lib.hid hgrow6; clear hown6 hgrow6 hblk6)
      have HB6 : Hid (Below w1.heap.size w1 w6) := ((Below.refl w1.heap.size w1).alloc (Nat.le_refl _) _).grown HGW6.out (by simp) fun g hg => (HE2.out.lt g hg).1
      have HO6 : Hid (w6.ownsRow w1.heap.size 58 7 v6 k (lns S)) := by
        have := HOW6.out
        rwa [Nat.zero_add, List.nil_append] at this
      have HCD : Hid (Calls Try.prog 23 #[.string ⟨F.toArray⟩, .int .i64 6] w6 fun e w' => e = .returned (.agg (macA (macOf F 6))) ∧ Below w6.heap.size w6 w') := refcard_any F 6 w6 (by have := HFN.out; omega) (by decide)
      clear HOW6 HGW6 HE2 HRD e1
      refine HCD.out.mono ?_
      rintro e w7 ⟨rfl, hb7⟩
      have HB7 := Lib.hid (HB6.out.trans (hb7.mono HB6.out.size))
      have HO7 := Lib.hid (ownk_below HO6.out hb7 (Nat.le_refl _))
      have HN7 := Lib.hid (old_below HN1.out HB7.out (row_lt HN1.out))
      clear hb7 HB6 HO6 HCD c0 c1
      generalize macOf F 6 = am at HX HSX HSL ⊢
      go_upto_region 8 with (first | refine wpList_buildA rfl 58 _ rfl (lnA ⟨am, q⟩) (by kernel_rfl) ?_ | refine wpList_build_one rfl 25 58 _ rfl (lnA ⟨am, q⟩) rfl Try.underlying25 7 (by decide) (by decide) (by kernel_rfl) rfl ?_ | (at_builtin; refine wpList_append_elem rfl _ _ 25 rfl w1.heap.size 58 i0 _ 7 16 Try.underlying25 q0 q1 q2 q3 rfl (by decide) v6 k (lns S) rfl (ownk_below HO7.out ((Below.refl _ _).alloc (Nat.le_refl _) _) (Nat.le_refl _)) w7.heap.size 1 (lnA ⟨am, q⟩) 58 (0, 0) rfl (heap_alloc_new w7 _) rfl (fun u hu => Array.all_eq_true_iff_forall_mem.1 (lnA_one ⟨am, q⟩) u (by simpa using hu)) (by unfold maxLen; omega) (by omega) (by have := HB7.out.size; simp; omega) ?_; intro v8 w8 hown8 hgrow8 hblk8; obtain ⟨A8, c8, rfl, hk8, hm8, -⟩ := ownk_form hown8; have HOW8 := Lib.hid hown8; have HGW8 := Lib.hid hgrow8; have HN8 : Hid (w8.heap[N]? = some (.cells #[.int .i64 (P : Int), .slice As k cs] 32 (0, 0))) := (HGW8.out.block N (row_lt (old_alloc HN7.out _)) (fun e => by have := (HO7.out.lt N e.symm).1; have := HS1.out; omega)).trans (old_alloc HN7.out _); have d1 := (two_cells HN8.out).2; have f1 := frozen_of_row w8 N 1 _ _ HN8.out; clear hown8 hgrow8 hblk8) | go_in)
      have HN9 : Hid ((w8.setCell ⟨N, 1, none⟩ (.slice A8 (k + 1) c8)).heap[N]? = some (.cells #[.int .i64 (P : Int), .slice A8 (k + 1) c8] 32 (0, 0))) := heap_setCell_same w8 N 1 _ _ (.slice A8 (k + 1) c8) HN8.out
      have HM9 : Hid ((w8.setCell ⟨N, 1, none⟩ (.slice A8 (k + 1) c8)).heap[M]? = some (.cells B2 32 (0, 0))) := by
        show _ = _
        rw [heap_setCell_other w8 ⟨N, 1, none⟩ M (.slice A8 (k + 1) c8) (fun e => by have h := HMN.out; have e2 : M = N := e; omega)]
        have hm7 := old_alloc (old_below HM1.out HB7.out (row_lt HM1.out)) (Obj.cells (lnA ⟨am, q⟩) 58)
        exact (HGW8.out.block M (row_lt hm7) (fun e => by have := (HO7.out.lt M e.symm).1; have := HS1.out; have := HMN.out; omega)).trans hm7
      have HK9 : Hid (KsT (w8.setCell ⟨N, 1, none⟩ (.slice A8 (k + 1) c8)) (.slice A8 (k + 1) c8) (S ++ [⟨am, q⟩])) := by
        have h := ownk_other HOW8.out HN8.out (by decide) fun j hj => heap_setCell_other w8 ⟨N, 1, none⟩ j (.slice A8 (k + 1) c8) hj
        have e : lns S ++ (lnA ⟨am, q⟩).toList = lns (S ++ [⟨am, q⟩]) := by rw [lns_append]; simp [lns]
        rw [e] at h
        refine KsT.own (base := w1.heap.size) ?_
        rw [HSL.out]
        exact h
      have HB9 : Hid (Below N w (w8.setCell ⟨N, 1, none⟩ (.slice A8 (k + 1) c8))) := ((HB1.out.trans ((HB7.out.alloc HB7.out.size _).mono (by have := HS1.out; omega))).grown HGW8.out (by have h1 := HB1.out.size; have h2 := HB7.out.size; have h3 := HNE.out; simp; omega) (fun g hg => by have := (HO7.out.lt g hg).1; have := HS1.out; omega)).setCell (p := ⟨N, 1, none⟩) (Nat.le_refl _) (.slice A8 (k + 1) c8)
      have HLT9 : Hid (M < (w8.setCell ⟨N, 1, none⟩ (.slice A8 (k + 1) c8)).heap.size) := row_lt HM9.out
      obtain ⟨S2, hS2⟩ : ∃ S2, S ++ [(⟨am, q⟩ : Ln)] = S2 := ⟨_, rfl⟩
      have HL9 : Hid (S2.length ≤ 1000) := by show _ ≤ _; rw [← hS2, HSL.out]; omega
      rw [hS2] at HK9 HX
      generalize w8.setCell ⟨N, 1, none⟩ (.slice A8 (k + 1) c8) = wx at HN9 HM9 HK9 HB9 HLT9 ⊢
      clear hS2 d1 f1 HN8 HOW8 HGW8 HO7 HN7 HB7 HSL HSX q0 q1 q2 q3
      have HCD : Hid (∀ d os, Calls Try.prog 23 #[.string ⟨F.toArray⟩, .int .i64 0] (Sort.grow (redrawn wx d) os) fun e w'' => e = .returned (.agg (macA (macOf F 0))) ∧ ∃ p : Regrown, w'' = Sort.grow (redrawn wx p.d) p.os) := fun d os => Calls.regrown_of (refcard_any F 0 _ (by have := HFN.out; omega) (by decide))
      have HFD : Hid (∀ d os, Calls Try.prog 14 #[.agg #[.int .i64 (P : Int), .slice A8 (k + 1) c8], .agg (macA (macOf F 0))] (Sort.grow (redrawn wx d) os) fun e w'' => e = .returned (.int .i64 (toX (KF S2) (macOf F 0))) ∧ ∃ p : Regrown, w'' = Sort.grow (redrawn wx p.d) p.os) := fun d os => Calls.regrown_of (reffind_any _ P S2 _ _ ⟨_, rfl, HK9.out.below (below_regrown wx d os)⟩ HL9.out)
      generalize macOf F 0 = a0 at HX HCD HFD
      have KN : Hid (∀ w', Reg wx w' → w'.heap[N]? = some (.cells #[.int .i64 (P : Int), .slice A8 (k + 1) c8] 32 (0, 0))) := reg_row HN9.out
      refine wp_region_quiet_below (by kernel_rfl) (by kernel_rfl) ?_
      (refine wpQuiet_step (fun K hK => ?_); refine quiet_load_row (by kernel_rfl) 32 _ rfl N rfl _ #[.int .i64 (P : Int), .slice A8 (k + 1) c8] _ _ KN.out Try.underlying32 rfl (by kernel_rfl) ?_; refine hK _ ?_; clear hK K; go_frame)
      repeat (first | go_big_quiet_step (first | (go_at_call 23; exact HCD.out _ _) | (go_at_call 14; exact HFD.out _ _)) | quiet_step (first | (go_at_call 23; exact HCD.out _ _) | (go_at_call 14; exact HFD.out _ _)))
      refine wpQuiet_nil ?_
      intro w3 hw'
      obtain ⟨⟨dq, osq⟩, rfl⟩ := hw'
      have hb3 := below_regrown wx dq osq
      generalize Sort.grow (redrawn wx dq) osq = w3 at hb3 ⊢
      have HN3 := Lib.hid (old_below HN9.out hb3 (row_lt HN9.out))
      have HM3 := Lib.hid (old_below HM9.out hb3 (row_lt HM9.out))
      have HK3 := Lib.hid (HK9.out.below hb3)
      have HB3 := Lib.hid (HB9.out.trans (hb3.mono (by have h := HB9.out.size; rw [HNE.out] at h; exact h)))
      have HLT3 : Hid (M < w3.heap.size) := Nat.lt_of_lt_of_le HLT9.out hb3.size
      clear hb3 HCD HFD KN HN9 HM9 HK9 HB9 HLT9
      obtain ⟨T, hT⟩ : ∃ T, toX (KF S2) a0 = T := ⟨_, rfl⟩
      rw [hT] at HX ⊢
      clear hT
      obtain ⟨i0, hi0, hz0, hz1, hz2⟩ := info_parts info_in
      have HI := Lib.hid (And.intro hi0 (And.intro hz0 (And.intro hz1 hz2)))
      have HP8 := HPP.out
      clear hi0 hz0 hz1 hz2
      go_wp2
      go_loopw [11, 12] (fun t11 t12 wr => ∃ i : Nat, i ≤ P ∧ t12 = .int .i64 (i : Int) ∧ Hid (wr.ownsRow w3.heap.size 3 1 t11 ((List.range i).filter (refG q T)).length (ints ((List.range i).filter (refG q T)))) ∧ Hid (Below w3.heap.size w3 wr)) (fun _ t12 _ => P - (intOf t12).toNat)
      case atStart => exact ⟨0, Nat.zero_le _, rfl, World.ownsRow_nil _ _ _ _, Lib.hid (Below.refl _ _)⟩
      case round =>
        obtain ⟨i, hi, rfl, HOW, HBE⟩ := hrel
        generalize u11 = v11 at HOW ⊢
        obtain ⟨x0, x1⟩ := two_cells (old_below HN3.out HBE.out (row_lt HN3.out))
        by_cases hlt : i < P
        · have hlt2 : (i : Int) < (P : Int) := by omega
          have HFR := Lib.hid (filter_range (refG q T) i)
          have hml := filter_range_le (refG q T) i
          obtain ⟨L, hL⟩ : ∃ L, (List.range i).filter (refG q T) = L := ⟨_, rfl⟩
          rw [hL] at HOW HFR hml
          obtain ⟨m, hm⟩ : ∃ m, L.length = m := ⟨_, rfl⟩
          rw [hm] at HOW hml
          have HLM := Lib.hid hm
          clear hL hm
          rcases (show refG q T i = true ∧ (i : Int) ≠ (q : Int) ∧ (T < 0 ∨ ¬ T < 0 ∧ T = (i : Int)) ∨ refG q T i = false ∧ ((i : Int) = (q : Int) ∨ (i : Int) ≠ (q : Int) ∧ ¬ T < 0 ∧ T ≠ (i : Int)) from by
            unfold refG
            by_cases h1 : i = q
            · exact .inr ⟨by simp [h1], .inl (by omega)⟩
            · by_cases h2 : T < 0
              · exact .inl ⟨by simp [h1, h2], by omega, .inl h2⟩
              · by_cases h3 : T = (i : Int)
                · exact .inl ⟨by simp [h1, h3], by omega, .inr ⟨h2, h3⟩⟩
                · exact .inr ⟨by simp [h1, h2, h3], .inr ⟨by omega, h2, h3⟩⟩) with ⟨hg, hne, ht⟩ | ⟨hg, ht⟩
          · have HF2 : Hid ((List.range (i + 1)).filter (refG q T) = L ++ [i]) := by
              have := HFR.out
              rwa [if_pos hg] at this
            have hne2 : ((i : Int) != (q : Int)) = true := by rw [bne_iff_ne]; exact hne
            have hne3 : ((i : Int) == (q : Int)) = false := by rw [beq_eq_false_iff_ne]; exact hne
            clear HFR hg
            obtain ⟨hi0, hz0, hz1, hz2⟩ := HI.out
            rcases ht with ht | ⟨ht, ht2⟩
            all_goals
              try (have hte : (T == (i : Int)) = true := by rw [ht2]; simp)
              try clear ht2
              go_wp2_with (at_builtin; refine wpList_append_elem rfl _ _ 36 rfl w3.heap.size 3 i0 _ 1 8 Try.underlying36 hi0 hz0 hz1 hz2 rfl (by decide) v11 m (ints L) rfl (ownk_below HOW.out ((Below.refl _ _).alloc (Nat.le_refl _) _) (Nat.le_refl _)) wr.heap.size 1 #[.int .i64 (i : Int)] 3 (0, 0) rfl (heap_alloc_new wr _) rfl (fun u hu => by simp at hu; subst hu; rfl) (by unfold maxLen; omega) (by omega) (by have := HBE.out.size; simp; omega) ?_; intro v6 w6 hown6 hgrow6 _; have HOW6 := Lib.hid hown6; have HGW6 := Lib.hid hgrow6; clear hown6 hgrow6)
              have HB6 : Hid (Below w3.heap.size w3 w6) := (HBE.out.alloc HBE.out.size _).grown HGW6.out (by have := HBE.out.size; simp; omega) fun g hg => (HOW.out.lt g hg).1
              have HO6 : Hid (w6.ownsRow w3.heap.size 3 1 v6 ((List.range (i + 1)).filter (refG q T)).length (ints ((List.range (i + 1)).filter (refG q T)))) := by
                show World.ownsRow _ _ _ _ _ _ _
                rw [HF2.out, List.length_append, HLM.out, ints_append]
                exact HOW6.out
              clear hi0 hz0 hz1 hz2 HOW6 HGW6 x0 x1 hne2 hne3
              go_wp2
              go_roundw
              case rel => exact ⟨i + 1, by omega, by go_num, HO6, HB6⟩
              case measure => simp [intOf]; omega
          · have HF2 : Hid ((List.range (i + 1)).filter (refG q T) = L) := by
              have := HFR.out
              rwa [if_neg (by simp [hg]), List.append_nil] at this
            have HO6 : Hid (wr.ownsRow w3.heap.size 3 1 v11 ((List.range (i + 1)).filter (refG q T)).length (ints ((List.range (i + 1)).filter (refG q T)))) := by
              show World.ownsRow _ _ _ _ _ _ _
              rw [HF2.out, HLM.out]
              exact HOW.out
            clear HFR hg HOW
            rcases ht with ht | ⟨ht0, ht1, ht2⟩
            · have hne2 : ((i : Int) != (q : Int)) = false := by rw [ht]; simp
              go_wp2
              go_roundw
              case rel => exact ⟨i + 1, by omega, by go_num, HO6, HBE⟩
              case measure => simp [intOf]; omega
            · have hne2 : ((i : Int) != (q : Int)) = true := by rw [bne_iff_ne]; exact ht0
              have hne3 : (T == (i : Int)) = false := by rw [beq_eq_false_iff_ne]; exact ht2
              go_wp2
              go_roundw
              case rel => exact ⟨i + 1, by omega, by go_num, HO6, HBE⟩
              case measure => simp [intOf]; omega
        · obtain rfl : i = P := by omega
          obtain ⟨Ao, co, rfl, -, -, -⟩ := ownk_form HOW.out
          have HNR := Lib.hid (old_below HN3.out HBE.out (row_lt HN3.out))
          have HMR := Lib.hid (old_below HM3.out HBE.out (row_lt HM3.out))
          have HKR := Lib.hid (HK3.out.below HBE.out)
          have HBR := Lib.hid (HB3.out.trans (HBE.out.mono (by have h := HB3.out.size; rw [HNE.out] at h; exact h)))
          go_wp2_with (first | refine wpList_load_row rfl 32 _ rfl N rfl 32 #[.int .i64 (i : Int), .slice A8 (k + 1) c8] (0, 0) _ HNR.out Try.underlying32 rfl (by kernel_rfl) ?_ | refine wpList_store_row rfl 32 _ _ rfl M #[.int .i64 (i : Int), .slice A8 (k + 1) c8] rfl rfl 32 _ HMR.out (by kernel_rfl) rfl (B2_ones _ _ _ _) ?_)
          refine ret_three (g := M) (cs := #[.int .i64 (i : Int), .slice A8 (k + 1) c8]) rfl rfl (setRow_heap _ _ _ _ _ _ HMR.out) Try.underlying32 rfl (by kernel_rfl) rfl ?_
          rw [HX.out]
          exact ⟨_, _, rfl, ⟨_, rfl, HKR.out.setRow HMR.out (by decide) _⟩, (IsT.own HOW.out).setRow HMR.out (by decide) _, by rw [HNE.out]; exact below_setRow HBR.out (by have := HMN.out; omega) _⟩
    · have hr1 : ((x.toNat : Int)).tmod 2 = 1 := by rw [Int.tmod_eq_emod_of_nonneg (by omega)]; omega
      have hr2 : ((x.toNat : Int)) % 2 = 1 := by omega
      have HSX : Hid (refS S q F = S) := by show _ = _; unfold refS; rw [hxm, if_neg (by omega)]
      rw [HSX.out] at HX
      go_upto_region 8 with (fail)
      clear hr1 hr2 hx hx1 h6 hx2 hxm hxl hr
      have HN9 := HN1
      have HM9 := HM1
      have HK9 := HK1
      have HB9 := HB1
      have HLT9 : Hid (M < w1.heap.size) := row_lt HM1.out
      have HL9 : Hid (S.length ≤ 1000) := by show _ ≤ _; rw [HKL.out]; omega
      clear c0 c1 HSX
      generalize w1 = wx at HN9 HM9 HK9 HB9 HLT9 ⊢
      have HCD : Hid (∀ d os, Calls Try.prog 23 #[.string ⟨F.toArray⟩, .int .i64 0] (Sort.grow (redrawn wx d) os) fun e w'' => e = .returned (.agg (macA (macOf F 0))) ∧ ∃ p : Regrown, w'' = Sort.grow (redrawn wx p.d) p.os) := fun d os => Calls.regrown_of (refcard_any F 0 _ (by have := HFN.out; omega) (by decide))
      have HFD : Hid (∀ d os, Calls Try.prog 14 #[.agg #[.int .i64 (P : Int), .slice As k cs], .agg (macA (macOf F 0))] (Sort.grow (redrawn wx d) os) fun e w'' => e = .returned (.int .i64 (toX (KF S) (macOf F 0))) ∧ ∃ p : Regrown, w'' = Sort.grow (redrawn wx p.d) p.os) := fun d os => Calls.regrown_of (reffind_any _ P S _ _ ⟨_, rfl, HK9.out.below (below_regrown wx d os)⟩ HL9.out)
      generalize macOf F 0 = a0 at HX HCD HFD
      have KN : Hid (∀ w', Reg wx w' → w'.heap[N]? = some (.cells #[.int .i64 (P : Int), .slice As k cs] 32 (0, 0))) := reg_row HN9.out
      refine wp_region_quiet_below (by kernel_rfl) (by kernel_rfl) ?_
      (refine wpQuiet_step (fun K hK => ?_); refine quiet_load_row (by kernel_rfl) 32 _ rfl N rfl _ #[.int .i64 (P : Int), .slice As k cs] _ _ KN.out Try.underlying32 rfl (by kernel_rfl) ?_; refine hK _ ?_; clear hK K; go_frame)
      repeat (first | go_big_quiet_step (first | (go_at_call 23; exact HCD.out _ _) | (go_at_call 14; exact HFD.out _ _)) | quiet_step (first | (go_at_call 23; exact HCD.out _ _) | (go_at_call 14; exact HFD.out _ _)))
      refine wpQuiet_nil ?_
      intro w3 hw'
      obtain ⟨⟨dq, osq⟩, rfl⟩ := hw'
      have hb3 := below_regrown wx dq osq
      generalize Sort.grow (redrawn wx dq) osq = w3 at hb3 ⊢
      have HN3 := Lib.hid (old_below HN9.out hb3 (row_lt HN9.out))
      have HM3 := Lib.hid (old_below HM9.out hb3 (row_lt HM9.out))
      have HK3 := Lib.hid (HK9.out.below hb3)
      have HB3 := Lib.hid (HB9.out.trans (hb3.mono (by have h := HB9.out.size; rw [HNE.out] at h; exact h)))
      have HLT3 : Hid (M < w3.heap.size) := Nat.lt_of_lt_of_le HLT9.out hb3.size
      clear hb3 HCD HFD KN HN9 HM9 HK9 HB9 HLT9
      obtain ⟨T, hT⟩ : ∃ T, toX (KF S) a0 = T := ⟨_, rfl⟩
      rw [hT] at HX ⊢
      clear hT
      obtain ⟨i0, hi0, hz0, hz1, hz2⟩ := info_parts info_in
      have HI := Lib.hid (And.intro hi0 (And.intro hz0 (And.intro hz1 hz2)))
      have HP8 := HPP.out
      clear hi0 hz0 hz1 hz2
      go_wp2
      go_loopw [11, 12] (fun t11 t12 wr => ∃ i : Nat, i ≤ P ∧ t12 = .int .i64 (i : Int) ∧ Hid (wr.ownsRow w3.heap.size 3 1 t11 ((List.range i).filter (refG q T)).length (ints ((List.range i).filter (refG q T)))) ∧ Hid (Below w3.heap.size w3 wr)) (fun _ t12 _ => P - (intOf t12).toNat)
      case atStart => exact ⟨0, Nat.zero_le _, rfl, World.ownsRow_nil _ _ _ _, Lib.hid (Below.refl _ _)⟩
      case round =>
        obtain ⟨i, hi, rfl, HOW, HBE⟩ := hrel
        generalize u11 = v11 at HOW ⊢
        obtain ⟨x0, x1⟩ := two_cells (old_below HN3.out HBE.out (row_lt HN3.out))
        by_cases hlt : i < P
        · have hlt2 : (i : Int) < (P : Int) := by omega
          have HFR := Lib.hid (filter_range (refG q T) i)
          have hml := filter_range_le (refG q T) i
          obtain ⟨L, hL⟩ : ∃ L, (List.range i).filter (refG q T) = L := ⟨_, rfl⟩
          rw [hL] at HOW HFR hml
          obtain ⟨m, hm⟩ : ∃ m, L.length = m := ⟨_, rfl⟩
          rw [hm] at HOW hml
          have HLM := Lib.hid hm
          clear hL hm
          rcases (show refG q T i = true ∧ (i : Int) ≠ (q : Int) ∧ (T < 0 ∨ ¬ T < 0 ∧ T = (i : Int)) ∨ refG q T i = false ∧ ((i : Int) = (q : Int) ∨ (i : Int) ≠ (q : Int) ∧ ¬ T < 0 ∧ T ≠ (i : Int)) from by
            unfold refG
            by_cases h1 : i = q
            · exact .inr ⟨by simp [h1], .inl (by omega)⟩
            · by_cases h2 : T < 0
              · exact .inl ⟨by simp [h1, h2], by omega, .inl h2⟩
              · by_cases h3 : T = (i : Int)
                · exact .inl ⟨by simp [h1, h3], by omega, .inr ⟨h2, h3⟩⟩
                · exact .inr ⟨by simp [h1, h2, h3], .inr ⟨by omega, h2, h3⟩⟩) with ⟨hg, hne, ht⟩ | ⟨hg, ht⟩
          · have HF2 : Hid ((List.range (i + 1)).filter (refG q T) = L ++ [i]) := by
              have := HFR.out
              rwa [if_pos hg] at this
            have hne2 : ((i : Int) != (q : Int)) = true := by rw [bne_iff_ne]; exact hne
            have hne3 : ((i : Int) == (q : Int)) = false := by rw [beq_eq_false_iff_ne]; exact hne
            clear HFR hg
            obtain ⟨hi0, hz0, hz1, hz2⟩ := HI.out
            rcases ht with ht | ⟨ht, ht2⟩
            all_goals
              try (have hte : (T == (i : Int)) = true := by rw [ht2]; simp)
              try clear ht2
              go_wp2_with (at_builtin; refine wpList_append_elem rfl _ _ 36 rfl w3.heap.size 3 i0 _ 1 8 Try.underlying36 hi0 hz0 hz1 hz2 rfl (by decide) v11 m (ints L) rfl (ownk_below HOW.out ((Below.refl _ _).alloc (Nat.le_refl _) _) (Nat.le_refl _)) wr.heap.size 1 #[.int .i64 (i : Int)] 3 (0, 0) rfl (heap_alloc_new wr _) rfl (fun u hu => by simp at hu; subst hu; rfl) (by unfold maxLen; omega) (by omega) (by have := HBE.out.size; simp; omega) ?_; intro v6 w6 hown6 hgrow6 _; have HOW6 := Lib.hid hown6; have HGW6 := Lib.hid hgrow6; clear hown6 hgrow6)
              have HB6 : Hid (Below w3.heap.size w3 w6) := (HBE.out.alloc HBE.out.size _).grown HGW6.out (by have := HBE.out.size; simp; omega) fun g hg => (HOW.out.lt g hg).1
              have HO6 : Hid (w6.ownsRow w3.heap.size 3 1 v6 ((List.range (i + 1)).filter (refG q T)).length (ints ((List.range (i + 1)).filter (refG q T)))) := by
                show World.ownsRow _ _ _ _ _ _ _
                rw [HF2.out, List.length_append, HLM.out, ints_append]
                exact HOW6.out
              clear hi0 hz0 hz1 hz2 HOW6 HGW6 x0 x1 hne2 hne3
              go_wp2
              go_roundw
              case rel => exact ⟨i + 1, by omega, by go_num, HO6, HB6⟩
              case measure => simp [intOf]; omega
          · have HF2 : Hid ((List.range (i + 1)).filter (refG q T) = L) := by
              have := HFR.out
              rwa [if_neg (by simp [hg]), List.append_nil] at this
            have HO6 : Hid (wr.ownsRow w3.heap.size 3 1 v11 ((List.range (i + 1)).filter (refG q T)).length (ints ((List.range (i + 1)).filter (refG q T)))) := by
              show World.ownsRow _ _ _ _ _ _ _
              rw [HF2.out, HLM.out]
              exact HOW.out
            clear HFR hg HOW
            rcases ht with ht | ⟨ht0, ht1, ht2⟩
            · have hne2 : ((i : Int) != (q : Int)) = false := by rw [ht]; simp
              go_wp2
              go_roundw
              case rel => exact ⟨i + 1, by omega, by go_num, HO6, HBE⟩
              case measure => simp [intOf]; omega
            · have hne2 : ((i : Int) != (q : Int)) = true := by rw [bne_iff_ne]; exact ht0
              have hne3 : (T == (i : Int)) = false := by rw [beq_eq_false_iff_ne]; exact ht2
              go_wp2
              go_roundw
              case rel => exact ⟨i + 1, by omega, by go_num, HO6, HBE⟩
              case measure => simp [intOf]; omega
        · obtain rfl : i = P := by omega
          obtain ⟨Ao, co, rfl, -, -, -⟩ := ownk_form HOW.out
          have HNR := Lib.hid (old_below HN3.out HBE.out (row_lt HN3.out))
          have HMR := Lib.hid (old_below HM3.out HBE.out (row_lt HM3.out))
          have HKR := Lib.hid (HK3.out.below HBE.out)
          have HBR := Lib.hid (HB3.out.trans (HBE.out.mono (by have h := HB3.out.size; rw [HNE.out] at h; exact h)))
          go_wp2_with (first | refine wpList_load_row rfl 32 _ rfl N rfl 32 #[.int .i64 (i : Int), .slice As k cs] (0, 0) _ HNR.out Try.underlying32 rfl (by kernel_rfl) ?_ | refine wpList_store_row rfl 32 _ _ rfl M #[.int .i64 (i : Int), .slice As k cs] rfl rfl 32 _ HMR.out (by kernel_rfl) rfl (B2_ones _ _ _ _) ?_)
          refine ret_three (g := M) (cs := #[.int .i64 (i : Int), .slice As k cs]) rfl rfl (setRow_heap _ _ _ _ _ _ HMR.out) Try.underlying32 rfl (by kernel_rfl) rfl ?_
          rw [HX.out]
          exact ⟨_, _, rfl, ⟨_, rfl, HKR.out.setRow HMR.out (by decide) _⟩, (IsT.own HOW.out).setRow HMR.out (by decide) _, by rw [HNE.out]; exact below_setRow HBR.out (by have := HMN.out; omega) _⟩
end Go.Proofs.Ytecbelnmdimnkaa
