/-
  The law SendqMoved: every two numbers, every slice of acts.
-/
import Derived.Test.YtebflcpoecolbaaSm
import Derived.Deep.CutBlock
namespace Go.Proofs.Ytebflcpoecolbaa
open Go.RowKit

theorem diff_moved2 (a t k : Int) : (addS a k - a) % 4294967296 = (addS (addS a t) k - addS a t) % 4294967296 := by
  unfold addS
  omega
theorem next_both {x : Sx} (h : OkS x) (t u v : Int) : ∃ a1 a2 l, nextP x u v = spcD a1 l ∧ nextP (mvS t x) u v = spcD a2 l ∧ l.length ≤ 256 ∧ (nextO x u v = true → (a1 - x.first) % 4294967296 = (a2 - addS x.first t) % 4294967296) := by
  obtain ⟨a, l, h1, h2, _, h4⟩ := next_data h u v
  cases ho : nextO x u v
  · exact ⟨0, 0, [], by unfold nextP; rw [ho]; rfl, by unfold nextP; rw [show nextO (mvS t x) u v = nextO x u v from rfl, ho]; rfl, by simp, fun h => by cases h⟩
  · refine ⟨_, _, nextB x u v, by unfold nextP; rw [ho]; rfl, by unfold nextP; rw [show nextO (mvS t x) u v = nextO x u v from rfl, ho]; rfl, ?_, fun _ => ?_⟩
    · have : nextP x u v = spcD (addS x.first (x.sent : Nat)) (nextB x u v) := by unfold nextP; rw [ho]; rfl
      rw [this] at h1
      unfold spcD bytesD at h1
      have hr := h.room
      have hf := h.from_le
      have hs := h.sent
      unfold nextB
      rw [List.length_take, List.length_drop]
      omega
    · exact diff_moved2 _ _ _
theorem again_both {x : Sx} (h : OkS x) (t v : Int) : ∃ a1 a2 l, againP x v = spcD a1 l ∧ againP (mvS t x) v = spcD a2 l ∧ l.length ≤ 256 ∧ (againO x v = true → (a1 - x.first) % 4294967296 = (a2 - addS x.first t) % 4294967296) := by
  cases ho : againO x v
  · exact ⟨0, 0, [], by unfold againP; rw [ho]; rfl, by unfold againP; rw [show againO (mvS t x) v = againO x v from rfl, ho]; rfl, by simp, fun h => by cases h⟩
  · refine ⟨_, _, againB x v, by unfold againP; rw [ho]; rfl, by unfold againP; rw [show againO (mvS t x) v = againO x v from rfl, ho]; rfl, ?_, fun _ => ?_⟩
    · have hr := h.room
      have hs := h.sent
      have hl := againT_le h v
      have ha := h.from_again
      unfold againB
      rw [List.length_take, List.length_drop]
      omega
    · exact diff_moved2 _ _ _
set_option maxRecDepth 100000 in
set_option maxHeartbeats 40000000 in
theorem moved_any (na nb : Int) (v : Value) (l : List Op18) (w : World) (hn : U32 na) (hnb : U32 nb) (hv : Rv w (Lt w.heap.size) v (rowsD 4 op18D l)) (hO : ∀ o ∈ l, ok18 o) (hl : l.length ≤ 140737488351232) :
    Calls Try.prog 6 #[.int .u32 na, .int .u32 nb, v] w fun e w' => e = .returned (.bool true) ∧ Below w.heap.size w w' := by
  have HNB := Lib.hid hnb
  obtain ⟨t, ht⟩ : ∃ t, nb - na = t := ⟨_, rfl⟩
  have HT : Hid (addS na t = nb) := by have := hnb.1; have := hnb.2; show _ = _; unfold addS; omega
  clear ht hnb
  have HRV := Lib.hid hv
  have HNN := Lib.hid hn
  have HO := Lib.hid hO
  obtain ⟨A, c, rfl, hnc, hcm, hel⟩ := op_at hv
  have HEL := Lib.hid hel
  obtain ⟨m, hm⟩ : ∃ m, l.length = m := ⟨_, rfl⟩
  rw [hm] at HRV hnc hl ⊢
  have HM := Lib.hid hm
  have hcm2 : c ≤ 9223372036854775807 := by unfold maxLen at hcm; omega
  clear hm hcm hn hO hv hel
  go_enter Try.func6, Try.ntmps6
  go_wp2_with fail
  refine (lives18_any _).mono ?_
  rintro e w1 ⟨rfl, hb1⟩
  have HB1 := Lib.hid hb1
  have HRV1 : Hid (Rv w1 (Lt w1.heap.size) (.slice A m c) (rowsD 4 op18D l)) := (HRV.out.kept hb1 (fun _ h => h)).wide fun b hb => Nat.lt_of_lt_of_le hb hb1.size
  have HFT := Lib.hid (fits_any _ l w1 HRV1.out HO.out (by rw [HM.out]; exact hl))
  obtain ⟨ft, hft⟩ : ∃ ft, fitsX l = ft := ⟨_, rfl⟩
  have HFX := Lib.hid hft
  rw [hft] at HFT
  clear hb1 hft
  go_wp2_with fail
  refine HFT.out.mono ?_
  rintro e w2 ⟨rfl, hb2⟩
  have HB2 := Lib.hid (HB1.out.trans (hb2.mono HB1.out.size))
  clear hb2 HFT HRV1
  cases ft
  · go_wp2_with fail
    refine (lives18_any _).mono ?_
    rintro e w3 ⟨rfl, hb3⟩
    have HB3 := Lib.hid (HB2.out.trans (hb3.mono HB2.out.size))
    clear hb3
    go_wp2
    go_ret
    exact ⟨rfl, HB3.out⟩
  have h60 := (fits_iff.1 HFX.out).2
  have HF4 := Lib.hid (fits_iff.1 HFX.out).1
  rw [HM.out] at h60
  have HOK0 := Lib.hid (new_okS HNN.out)
  have HLN : Hid ((newS na).all.length ≤ 400 * 0) := Nat.le_refl _
  have HFN0 : Hid ((newS na).first = na) := rfl
  have HM0 : Hid (newS nb = mvS t (newS na)) := by show _ = _; rw [← HT.out]; rfl
  go_wp2_with fail
  refine (new18_any na _ HNN.out).mono ?_
  rintro e w3 ⟨cs1, rfl, hr, hb⟩
  have F1 := Lib.hid ((Frm.start HB2.out).new hb hr)
  obtain ⟨vD, rfl, -, h1⟩ := sq_of hr
  have HA1 := Lib.hid h1
  clear hr hb h1
  go_wp2_with fail
  refine (new18_any nb _ HNB.out).mono ?_
  rintro e w4 ⟨cs2, rfl, hr, hb⟩
  rw [HM0.out] at hr
  obtain ⟨X0, hX0⟩ : ∃ X0, newS na = X0 := ⟨_, rfl⟩
  rw [hX0] at hr HOK0 HLN HFN0 F1 HA1
  have F2 := Lib.hid (F1.out.new hb hr)
  obtain ⟨vB, rfl, -, h1⟩ := sq_of hr
  have HA2 := Lib.hid h1
  clear hr hb h1 F1 HM0
  rw [hX0]
  clear hX0
  have F3 := Lib.hid ((F2.out.alloc #[.int .u32 0, .slice none 0 0, .int .i64 0, .bool false, .bool false, .bool false] 28).alloc #[.int .u32 0, .slice none 0 0, .int .i64 0, .bool false, .bool false, .bool false] 28)
  rw [show (w4.alloc (.cells #[.int .u32 0, .slice none 0 0, .int .i64 0, .bool false, .bool false, .bool false] 28)).heap.size = w4.heap.size + 1 from by simp] at F3
  have F4 := Lib.hid (F3.out.put (i := 1) rfl (sqC (concS X0) vD))
  go_upto_region 4 with (first | (refine wpList_store_row rfl 28 _ _ rfl (w4.heap.size + 1) (sqC (concS (mvS t X0)) vB) rfl rfl 28 #[.int .u32 0, .slice none 0 0, .int .i64 0, .bool false, .bool false, .bool false] (F4.out.at (i := 0) rfl) (by kernel_rfl) rfl HA2.out ?_) | (refine wpList_store_row rfl 28 _ _ rfl w4.heap.size (sqC (concS X0) vD) rfl rfl 28 #[.int .u32 0, .slice none 0 0, .int .i64 0, .bool false, .bool false, .bool false] (F3.out.at (i := 1) rfl) (by kernel_rfl) rfl HA1.out ?_) | go_in)
  have F5 := Lib.hid (F4.out.put (i := 0) rfl (sqC (concS (mvS t X0)) vB))
  obtain ⟨g1, hg1⟩ : ∃ g1, w4.heap.size = g1 := ⟨_, rfl⟩
  obtain ⟨g2, hg2⟩ : ∃ g2, g1 + 1 = g2 := ⟨_, rfl⟩
  generalize (((w4.alloc (.cells #[.int .u32 0, .slice none 0 0, .int .i64 0, .bool false, .bool false, .bool false] 28)).alloc (.cells #[.int .u32 0, .slice none 0 0, .int .i64 0, .bool false, .bool false, .bool false] 28)).setRow w4.heap.size (sqC (concS X0) vD)).setRow (w4.heap.size + 1) (sqC (concS (mvS t X0)) vB) = w5 at F5 ⊢
  rw [hg1, hg2] at F5 ⊢
  have F6 : Hid (Frm w w5 [(g2, (sqC (concS (mvS t X0)) vB), 28), (g1, (sqC (concS X0) vD), 28)] [((sqC (concS (mvS t X0)) vB).toList, sqD (concS (mvS t X0))), ((sqC (concS X0) vD).toList, sqD (concS X0))]) := F5
  clear F2 F3 F4 F5 hg1 hg2 HA1 HA2 HB1 HB2
  go_wp2
  go_loopw [49] (fun t49 wr => ∃ (i : Nat) (x : Sx) (a b : Value), i ≤ m ∧ t49 = .int .i64 (i : Int) ∧ Hid (OkS x) ∧ Hid (x.first = na) ∧ Hid (x.all.length ≤ 400 * i) ∧ Hid (Frm w wr [(g2, (sqC (concS (mvS t x)) b), 28), (g1, (sqC (concS x) a), 28)] [((sqC (concS (mvS t x)) b).toList, sqD (concS (mvS t x))), ((sqC (concS x) a).toList, sqD (concS x))])) (fun t49 _ => m - (intOf t49).toNat)
  case atStart => exact ⟨0, X0, vD, vB, Nat.zero_le _, rfl, HOK0, HFN0, HLN, F6⟩
  case round =>
    clear F6 HOK0 HLN HFN0
    obtain ⟨i, x, vD, vB, hi, rfl, HOX, HFN, HXL, F1⟩ := hrel
    by_cases hlt : i < m
    · obtain ⟨o, ho⟩ : ∃ o, l[i]? = some o := ⟨_, List.getElem?_eq_getElem (by rw [HM.out]; exact hlt)⟩
      have HMO := Lib.hid (List.mem_of_getElem? ho)
      obtain ⟨ad, B, eb, rfl, hrb, hcl⟩ := HEL.out i o ho
      have HOO := Lib.hid (HO.out o HMO.out)
      have hk4 := HF4.out o HMO.out
      obtain ⟨kd, D, nn, sz⟩ := o
      dsimp only at hrb hcl hk4
      obtain ⟨k, hk⟩ : ∃ k, D.length = k := ⟨_, rfl⟩
      have HDK := Lib.hid hk
      rw [hk] at hrb hcl hk4
      have HKC : Hid (∀ (j : Nat) u, (#[.int .i64 kd, .slice B k eb, .int .i64 nn, .int .i64 sz] : Array Value)[j]? = some u → wr.cell? ((ad.add (i * 4)).add j) = some u) := fun j u hj => (F1.out.below.cell (cell_lt (hcl j u hj))).trans (hcl j u hj)
      have F2 := Lib.hid (F1.out.add (us := [.slice B k eb]) (ds := [bytesD D]) (F1.out.old (rvs_cons.2 ⟨hrb, rvs_nil⟩)))
      clear ho hrb hcl hk HMO F1
      go_upto_region 7 with (first | (refine wpList_load_atA rfl 33 _ rfl (ad.add (i * 4)) rfl #[.int .i64 kd, .slice B k eb, .int .i64 nn, .int .i64 sz] _ HKC.out Try.underlying33 rfl (by kernel_rfl) ?_) | (refine wpList_store_new rfl 33 _ _ rfl wr #[.int .i64 0, .slice none 0 0, .int .i64 0, .int .i64 0] #[.int .i64 kd, .slice B k eb, .int .i64 nn, .int .i64 sz] rfl rfl (by kernel_rfl) rfl (by simp [Value.oneCell']) ?_) | go_in)
      have F3 := Lib.hid (F2.out.alloc #[.int .i64 kd, .slice B k eb, .int .i64 nn, .int .i64 sz] 33)
      obtain ⟨go, hgo⟩ : ∃ go, wr.heap.size = go := ⟨_, rfl⟩
      rw [hgo] at F3 ⊢
      change Code.wp _ _ _ _ (wr.alloc (.cells #[.int .i64 kd, .slice B k eb, .int .i64 nn, .int .i64 sz] 33))
      generalize wr.alloc (.cells #[.int .i64 kd, .slice B k eb, .int .i64 nn, .int .i64 sz] 33) = w5 at F3 ⊢
      clear HKC F2 hgo
      have hxl := HXL.out
      have HN := Lib.hid HOO.out.2.2.1
      have HSZ := Lib.hid HOO.out.2.2.2
      have HOM := Lib.hid (mv_okS HOX.out t)
      obtain ⟨hkk, hk7⟩ := kindS_eq kd
      obtain ⟨kk, hkq⟩ : ∃ kk, kindS kd = kk := ⟨_, rfl⟩
      rw [hkq] at hkk hk7
      obtain ⟨o0, o1, o2, o3⟩ := four_at (F3.out.at (i := 0) rfl)
      have HSL : Hid (x.all.length ≤ 1000000) := by show _ ≤ _; omega
      clear hkq HOO
      go_upto_block 2 with (fail)
      go_cut [] (fun wx => ∃ (y : Sx) (a b : Value), Hid (OkS y) ∧ Hid (y.first = na) ∧ Hid (y.all.length ≤ 400 * (i + 1)) ∧ Hid (Frm w wx [(go, #[.int .i64 kd, .slice B k eb, .int .i64 nn, .int .i64 sz], 33), (g2, (sqC (concS (mvS t y)) b), 28), (g1, (sqC (concS y) a), 28)] [((sqC (concS (mvS t y)) b).toList, sqD (concS (mvS t y))), ((sqC (concS y) a).toList, sqD (concS y))]))
      case first =>
        obtain rfl | rfl | rfl | rfl | rfl | rfl | rfl : kk = 0 ∨ kk = 1 ∨ kk = 2 ∨ kk = 3 ∨ kk = 4 ∨ kk = 5 ∨ kk = 6 := by omega
        · as_aux_lemma =>
            have HD10 : Hid (D.length ≤ 1000) := by show _ ≤ _; rw [HDK.out]; omega
            have HCA := Lib.hid (fun w' S S2 v (hr : Rvs w' S (sqC (concS x) vD).toList (sqD (concS x))) (hv : Rv w' S2 v (bytesD D)) => write18_any x (sqC (concS x) vD) S S2 v D w' hr HOX.out hv HD10.out)
            have HCB : Hid (∀ w' S S2 v (hr : Rvs w' S (sqC (concS (mvS t x)) vB).toList (sqD (concS (mvS t x)))) (hv : Rv w' S2 v (bytesD D)), Calls Try.prog 20 #[.agg (sqC (concS (mvS t x)) vB), v] w' fun e w'' => ∃ cs' : Array Value, e = .returned (.tuple #[.agg cs', .int .i64 (writeN x D : Int)]) ∧ Rvs w'' (fun b => S b ∨ w'.heap.size ≤ b) cs'.toList (sqD (concS (mvS t (writeS x D)))) ∧ Below w'.heap.size w' w'') := fun w' S S2 v hr hv => write18_any (mvS t x) (sqC (concS (mvS t x)) vB) S S2 v D w' hr HOM.out hv HD10.out
            have HOY := Lib.hid (write_okS HOX.out D)
            have HYL0 : Hid ((writeS x D).all.length ≤ x.all.length + D.length) := by show (x.all ++ D.take (writeN x D)).length ≤ _; rw [List.length_append, List.length_take]; omega
            have HFY : Hid ((writeS x D).first = na) := HFN.out
            generalize writeN x D = q at HCA HCB
            obtain ⟨y, hy⟩ : ∃ y, writeS x D = y := ⟨_, rfl⟩
            rw [hy] at HCA HCB HOY HYL0 HFY
            have HYL : Hid (y.all.length ≤ 400 * (i + 1)) := by
              have h1 := HYL0.out
              have h2 : D.length = k := HDK.out
              show _ ≤ _
              omega
            clear hy HYL0 HN HSZ
            go_wp2_with (refine wpList_load_row rfl 28 _ rfl g1 rfl 28 (sqC (concS x) vD) (0, 0) _ (F3.out.at (i := 2) rfl) Try.underlying28 rfl (by kernel_rfl) ?_)
            refine (HCA.out _ _ _ _ (F3.out.val (i := 2) rfl) (rvs_cons.1 (F3.out.val (i := 0) rfl)).1).mono ?_
            rintro e w6 ⟨cs', rfl, hr, hb⟩
            obtain ⟨vE, rfl, -, h1⟩ := sq_of hr
            have H1 := Lib.hid h1
            have F4 := Lib.hid (F3.out.res hb hr)
            clear h1 hr hb F3 o0 o1 o2 o3 HCA
            go_upto_region 11 with (first | (refine wpList_store_new rfl 28 _ _ rfl w6 #[.int .u32 0, .slice none 0 0, .int .i64 0, .bool false, .bool false, .bool false] (sqC (concS y) vE) rfl rfl (by kernel_rfl) rfl H1.out ?_) | go_in)
            have F5 := Lib.hid (F4.out.alloc (sqC (concS y) vE) 28)
            obtain ⟨ga, hg9⟩ : ∃ g, w6.heap.size = g := ⟨_, rfl⟩
            rw [hg9] at F5 ⊢
            change Code.wp _ _ _ _ (w6.alloc (.cells (sqC (concS y) vE) 28))
            generalize w6.alloc (.cells (sqC (concS y) vE) 28) = w7 at F5 ⊢
            clear F4 hg9
            obtain ⟨o0, o1, o2, o3⟩ := four_at (F5.out.at (i := 1) rfl)
            go_wp2_with (refine wpList_load_row rfl 28 _ rfl g2 rfl 28 (sqC (concS (mvS t x)) vB) (0, 0) _ (F5.out.at (i := 2) rfl) Try.underlying28 rfl (by kernel_rfl) ?_)
            refine (HCB.out _ _ _ _ (F5.out.val (i := 2) rfl) (rvs_cons.1 (F5.out.val (i := 1) rfl)).1).mono ?_
            rintro e w8 ⟨cs', rfl, hr, hb⟩
            obtain ⟨vF, rfl, -, h1⟩ := sq_of hr
            have H2 := Lib.hid h1
            have F6 := Lib.hid (F5.out.res hb hr)
            clear h1 hr hb F5 o0 o1 o2 o3 HCB
            go_upto_region 12 with (first | (refine wpList_store_new rfl 28 _ _ rfl w8 #[.int .u32 0, .slice none 0 0, .int .i64 0, .bool false, .bool false, .bool false] (sqC (concS (mvS t y)) vF) rfl rfl (by kernel_rfl) rfl H2.out ?_) | go_in)
            have F7 := Lib.hid (F6.out.alloc (sqC (concS (mvS t y)) vF) 28)
            obtain ⟨gb, hg9⟩ : ∃ g, w8.heap.size = g := ⟨_, rfl⟩
            rw [hg9] at F7 ⊢
            change Code.wp _ _ _ _ (w8.alloc (.cells (sqC (concS (mvS t y)) vF) 28))
            generalize w8.alloc (.cells (sqC (concS (mvS t y)) vF) 28) = w9 at F7 ⊢
            clear F6 hg9
            have N12 : Hid (g1 ≠ g2) := F7.out.ne (i := 4) (j := 3) rfl rfl (by decide)
            have NA1 : Hid (ga ≠ g1) := F7.out.ne (i := 1) (j := 4) rfl rfl (by decide)
            have NA2 : Hid (ga ≠ g2) := F7.out.ne (i := 1) (j := 3) rfl rfl (by decide)
            have NB1 : Hid (gb ≠ g1) := F7.out.ne (i := 0) (j := 4) rfl rfl (by decide)
            have NB2 : Hid (gb ≠ g2) := F7.out.ne (i := 0) (j := 3) rfl rfl (by decide)
            have HXA := Lib.hid (F7.out.at (i := 1) rfl)
            have HXB := Lib.hid (F7.out.at (i := 0) rfl)
            have HX1 := Lib.hid (F7.out.at (i := 4) rfl)
            have HX2 := Lib.hid (F7.out.at (i := 3) rfl)
            go_upto_region 12 with (fail)
            apply wp_region_relyG [2, 3] (OldT w9 2 g1 28 (sqC (concS x) vD) (sqC (concS y) vE) 3 g2 28 (sqC (concS (mvS t x)) vB) (sqC (concS (mvS t y)) vF)) (RL [Is (.agg (sqC (concS y) vE)), Is (.agg (sqC (concS (mvS t y)) vF)), Any, Any]) [false, false, false, false, false, false, false, false, false, false, false, false, false, false, false, false, false, false, false, false, false, false, false, false, false, false, false, false, false, false, false, false, false, false, false, false, false, false, false, false, false, false, false, false, false, false, false, false, false, false, false, false, false, false, false, false, false, false, false, false, false, false, false, false, false, false, false, false, false, false, false, false, false, false, false, false, false, true, true, false, false, false, false, false, false, false, false, false, false, false, false, false, false, false, false, false, false, false, false, false, false, false, false, false, false, false, false, false, false, false, false, false, false, false, false, false, false, false, false, false, false, false, false, false, false, false, false, false, false, false, false, false, false, false, false, false, false, false, false, false, false, false, false, false, false, false, false, false, false, false, false, false, false, false, false, false, false, false, false, false, false, false, false, false, false, false, false, false, false, false, false, false, false, false, false, false, false, false, false, false, false, false, false, false, false, false, false, false, false, false, false, false, false, false, false, false, false, false, false, false, false, false, false, false, false, false, false, false, false, false, false, false, false, false, false, false, false, false, false, false, false, false, false, false, false, false, false, false, false, false, false, false, false, false, false, false, false, false, false, false, false, false, false, false, false, false, false, false, false, false, false, false, false, false, false, false, false, false, false, false, false, false, false, false, false, false, false, false, false, false, false, false, false]
            · kernel_rfl
            · kernel_rfl
            · kernel_rfl
            · refine ⟨?_, ?_, ?_, ?_, trivial⟩
              · intro L ev w' hC hL hx K hK
                have e11 : ev (.tmp 11) = _ := hx.base 11 (by kernel_rfl)
                have HK := Lib.hid hK
                have HC := Lib.hid hC
                have HL := Lib.hid hL
                have HX := Lib.hid hx
                have hc := hx.cst
                skip
                clear hx hK hC hL
                have q1 : ev (.tmp 11) = .pointer (some ⟨ga, 0, none⟩) := e11
                have hld := run_loadVar_row (P := Try.prog) w' ga 28 28 (sqC (concS y) vE) (0, 0) _ (HC.out.keep HXA.out NA1.out NA2.out) Try.underlying28 rfl (by kernel_rfl)
                unfold Run
                rw [rely_load 28 _ rfl q1 hld]
                exact HK.out _ _ (.inl ⟨Below.refl _ _, by decide⟩) rfl
              · intro L ev w' hC hL hx K hK
                have e13 : ev (.tmp 13) = _ := hx.base 13 (by kernel_rfl)
                have HK := Lib.hid hK
                have HC := Lib.hid hC
                have HL := Lib.hid hL
                have HX := Lib.hid hx
                have hc := hx.cst
                skip
                clear hx hK hC hL
                have q1 : ev (.tmp 13) = .pointer (some ⟨gb, 0, none⟩) := e13
                have hld := run_loadVar_row (P := Try.prog) w' gb 28 28 (sqC (concS (mvS t y)) vF) (0, 0) _ (HC.out.keep HXB.out NB1.out NB2.out) Try.underlying28 rfl (by kernel_rfl)
                unfold Run
                rw [rely_load 28 _ rfl q1 hld]
                exact HK.out _ _ (.inl ⟨Below.refl _ _, by decide⟩) rfl
              · intro L ev w' hC hL hx K hK
                have e7 : ev (.tmp 7) = _ := hx.base 7 (by kernel_rfl)
                have e77 := hx.held 0 _ rfl (by kernel_rfl)
                change ev (.tmp 77) = _ at e77
                have HK := Lib.hid hK
                have HC := Lib.hid hC
                have HL := Lib.hid hL
                have HX := Lib.hid hx
                have hc := hx.cst
                skip
                clear hx hK hC hL
                have qv : ev (.tmp 77) = .agg (sqC (concS y) vE) := e77
                have nst : L 2 = false := HL.out
                have qp : ev (.tmp 7) = .pointer (some ⟨g1, 0, none⟩) := e7
                have hgh := HC.out.old1 nst
                have hnv := HC.out.store1 nst rfl N12.out (by decide)
                have hst := run_storeVar_row (P := Try.prog) w' g1 28 28 (sqC (concS x) vD) (sqC (concS y) vE) hgh (by kernel_rfl) rfl H1.out
                unfold Run
                rw [rely_store 28 _ _ rfl qp qv hst]
                refine HK.out _ _ (.inr ⟨hnv, fun j hj hlj u hr => ?_⟩) trivial
                rcases j with _ | _ | _ | _ | j
                · exact hr
                · exact hr
                · exact absurd rfl hj
                · exact trivial
                · exact trivial
              · intro L ev w' hC hL hx K hK
                have e8 : ev (.tmp 8) = _ := hx.base 8 (by kernel_rfl)
                have e78 := hx.held 1 _ rfl (by kernel_rfl)
                change ev (.tmp 78) = _ at e78
                have HK := Lib.hid hK
                have HC := Lib.hid hC
                have HL := Lib.hid hL
                have HX := Lib.hid hx
                have hc := hx.cst
                skip
                clear hx hK hC hL
                have qv : ev (.tmp 78) = .agg (sqC (concS (mvS t y)) vF) := e78
                have nst : L 3 = false := HL.out
                have qp : ev (.tmp 8) = .pointer (some ⟨g2, 0, none⟩) := e8
                have hgh := HC.out.old2 nst
                have hnv := HC.out.store2 nst rfl N12.out (by decide)
                have hst := run_storeVar_row (P := Try.prog) w' g2 28 28 (sqC (concS (mvS t x)) vB) (sqC (concS (mvS t y)) vF) hgh (by kernel_rfl) rfl H2.out
                unfold Run
                rw [rely_store 28 _ _ rfl qp qv hst]
                refine HK.out _ _ (.inr ⟨hnv, fun j hj hlj u hr => ?_⟩) trivial
                rcases j with _ | _ | _ | _ | j
                · exact hr
                · exact hr
                · exact trivial
                · exact absurd rfl hj
                · exact trivial
            · exact rl_mono ⟨is_mono _, is_mono _, any_mono, any_mono, trivial⟩
            · exact fun L L' w' h1 hg => hg.agree (h1 2 (by simp)) (h1 3 (by simp))
            · exact fun L w' w'' hb hg => hg.below hb
            · exact OldT.start HX1.out HX2.out
            · simp
            intro us wr hG hH
            obtain ⟨-, -, -, -, -⟩ := hH
            simp only [fillM]
            obtain ⟨hG9, hvn1, hvn2⟩ := hG
            have HVN1 : Hid (wr.heap[g1]? = some (.cells (sqC (concS y) vE) 28 (0, 0))) := hvn1
            have HVN2 : Hid (wr.heap[g2]? = some (.cells (sqC (concS (mvS t y)) vF) 28 (0, 0))) := hvn2
            have HG9 := Lib.hid hG9
            clear hG9 hvn1 hvn2
            generalize us 77 = v77
            generalize us 78 = v78
            have F8 := Lib.hid (F7.out.put2 (i := 4) (j := 3) rfl rfl (by decide) HG9.out HVN1.out HVN2.out)
            clear F7 HG9 HVN1 HVN2 HXA HXB HX1 HX2 N12 NA1 NA2 NB1 NB2
            rename World => wq
            have HFZ : Hid (Frm w wq [(go, #[.int .i64 kd, .slice B k eb, .int .i64 nn, .int .i64 sz], 33), (g2, (sqC (concS (mvS t y)) vF), 28), (g1, (sqC (concS y) vE), 28)] [((sqC (concS (mvS t y)) vF).toList, sqD (concS (mvS t y))), ((sqC (concS y) vE).toList, sqD (concS y))]) := Lib.hid (F8.out.drop 2 rfl (fun p hp => by simp only [List.mem_cons, List.not_mem_nil, or_false] at hp ⊢; rcases hp with rfl | rfl <;> simp))
            clear F8
            go_wp2
            go_meet
            case rel => exact ⟨y, vE, vF, HOY, HFY, HYL, HFZ⟩
        · as_aux_lemma =>
            obtain ⟨a1, a2, ld, hP, hP2, hl2, hsq⟩ := next_both HOX.out t nn sz
            have HCA := Lib.hid (next18_any x (sqC (concS x) vD) _ nn sz w5 (F3.out.val (i := 2) rfl) HOX.out HN.out HSZ.out)
            have HCB : Hid (∀ w' S (hr : Rvs w' S (sqC (concS (mvS t x)) vB).toList (sqD (concS (mvS t x)))), Calls Try.prog 21 #[.agg (sqC (concS (mvS t x)) vB), .int .i64 nn, .int .i64 sz] w' fun e w'' => ∃ cs' ps : Array Value, e = .returned (.tuple #[.agg cs', .agg ps, .bool (nextE x nn sz), .bool (nextO x nn sz)]) ∧ Rvs w'' (fun b => S b ∨ w'.heap.size ≤ b) cs'.toList (sqD (concS (mvS t (nextS x nn sz)))) ∧ Rvs w'' (fun b => S b ∨ w'.heap.size ≤ b) ps.toList (nextP (mvS t x) nn sz) ∧ Below w'.heap.size w' w'') := fun w' S hr => next18_any (mvS t x) (sqC (concS (mvS t x)) vB) S nn sz w' hr HOM.out HN.out HSZ.out
            rw [hP] at HCA
            rw [hP2] at HCB
            have HOY := Lib.hid (next_okS HOX.out nn sz)
            have HFY : Hid ((nextS x nn sz).first = na) := HFN.out
            have HYL : Hid ((nextS x nn sz).all.length ≤ 400 * (i + 1)) := by show x.all.length ≤ _; omega
            have HSQ := Lib.hid hsq
            generalize nextE x nn sz = en at HCA HCB
            generalize nextO x nn sz = ok at HCA HCB HSQ
            obtain ⟨y, hy⟩ : ∃ y, nextS x nn sz = y := ⟨_, rfl⟩
            rw [hy] at HCA HCB HOY HYL HFY
            clear hy hP hP2 hsq HN HSZ
            go_wp2_with (refine wpList_load_row rfl 28 _ rfl g1 rfl 28 (sqC (concS x) vD) (0, 0) _ (F3.out.at (i := 2) rfl) Try.underlying28 rfl (by kernel_rfl) ?_)
            refine HCA.out.mono ?_
            rintro e w6 ⟨cs', ps, rfl, hr, hp, hb⟩
            obtain ⟨vE, rfl, -, h1⟩ := sq_of hr
            obtain ⟨vP, rfl, hvP, h2⟩ := pc_of hp
            have H1 := Lib.hid h1
            have H3 := Lib.hid h2
            have F4 := Lib.hid ((F3.out.res hb hr).more F3.out (us := [vP]) (ds := [bytesD ld]) (rvs_cons.2 ⟨hvP, rvs_nil⟩))
            clear h1 h2 hr hp hb hvP F3 o0 o1 o2 o3 HCA
            have f5 := Lib.hid ((F4.out.alloc #[.int .u32 0, .slice none 0 0, .int .i64 0, .bool false, .bool false, .bool false] 28).alloc #[.int .u32 0, .slice none 0 0] 46)
            rw [show (w6.alloc (.cells #[.int .u32 0, .slice none 0 0, .int .i64 0, .bool false, .bool false, .bool false] 28)).heap.size = w6.heap.size + 1 from by simp] at f5
            have f6 := Lib.hid (f5.out.put (i := 1) rfl (sqC (concS y) vE))
            go_upto_region 18 with (first | (refine wpList_store_row rfl 28 _ _ rfl w6.heap.size (sqC (concS y) vE) rfl rfl 28 #[.int .u32 0, .slice none 0 0, .int .i64 0, .bool false, .bool false, .bool false] (f5.out.at (i := 1) rfl) (by kernel_rfl) rfl H1.out ?_) | (refine wpList_store_row rfl 46 _ _ rfl (w6.heap.size + 1) (#[.int .u32 a1, vP] : Array Value) rfl rfl 46 #[.int .u32 0, .slice none 0 0] (f6.out.at (i := 0) rfl) (by kernel_rfl) rfl H3.out ?_) | go_in)
            have f7 := Lib.hid (f6.out.put (i := 0) rfl (#[.int .u32 a1, vP] : Array Value))
            obtain ⟨ga, hg8⟩ : ∃ g, w6.heap.size = g := ⟨_, rfl⟩
            obtain ⟨gp, hg9⟩ : ∃ g, ga + 1 = g := ⟨_, rfl⟩
            have F5 : Hid (Frm w ((((w6.alloc (.cells #[.int .u32 0, .slice none 0 0, .int .i64 0, .bool false, .bool false, .bool false] 28)).alloc (.cells #[.int .u32 0, .slice none 0 0] 46)).setRow w6.heap.size (sqC (concS y) vE)).setRow (w6.heap.size + 1) (#[.int .u32 a1, vP] : Array Value)) [(w6.heap.size + 1, (#[.int .u32 a1, vP] : Array Value), 46), (w6.heap.size, (sqC (concS y) vE), 28), (go, #[.int .i64 kd, .slice B k eb, .int .i64 nn, .int .i64 sz], 33), (g2, (sqC (concS (mvS t x)) vB), 28), (g1, (sqC (concS x) vD), 28)] [([vP], [bytesD ld]), ((sqC (concS y) vE).toList, sqD (concS y)), ([.slice B k eb], [bytesD D]), ((sqC (concS (mvS t x)) vB).toList, sqD (concS (mvS t x))), ((sqC (concS x) vD).toList, sqD (concS x))]) := f7
            generalize (((w6.alloc (.cells #[.int .u32 0, .slice none 0 0, .int .i64 0, .bool false, .bool false, .bool false] 28)).alloc (.cells #[.int .u32 0, .slice none 0 0] 46)).setRow w6.heap.size (sqC (concS y) vE)).setRow (w6.heap.size + 1) (#[.int .u32 a1, vP] : Array Value) = w7 at F5 ⊢
            rw [hg8, hg9] at F5 ⊢
            clear F4 f5 f6 f7 hg8 hg9
            obtain ⟨o0, o1, o2, o3⟩ := four_at (F5.out.at (i := 2) rfl)
            go_wp2_with (refine wpList_load_row rfl 28 _ rfl g2 rfl 28 (sqC (concS (mvS t x)) vB) (0, 0) _ (F5.out.at (i := 3) rfl) Try.underlying28 rfl (by kernel_rfl) ?_)
            refine (HCB.out _ _ (F5.out.val (i := 3) rfl)).mono ?_
            rintro e w8 ⟨cs', ps, rfl, hr, hp, hb⟩
            obtain ⟨vF, rfl, -, h1⟩ := sq_of hr
            obtain ⟨vQ, rfl, hvP, h2⟩ := pc_of hp
            have H2 := Lib.hid h1
            have H4 := Lib.hid h2
            have F6 := Lib.hid ((F5.out.res hb hr).more F5.out (us := [vQ]) (ds := [bytesD ld]) (rvs_cons.2 ⟨hvP, rvs_nil⟩))
            clear h1 h2 hr hp hb hvP F5 o0 o1 o2 o3 HCB
            have f5 := Lib.hid ((F6.out.alloc #[.int .u32 0, .slice none 0 0, .int .i64 0, .bool false, .bool false, .bool false] 28).alloc #[.int .u32 0, .slice none 0 0] 46)
            rw [show (w8.alloc (.cells #[.int .u32 0, .slice none 0 0, .int .i64 0, .bool false, .bool false, .bool false] 28)).heap.size = w8.heap.size + 1 from by simp] at f5
            have f6 := Lib.hid (f5.out.put (i := 1) rfl (sqC (concS (mvS t y)) vF))
            go_upto_region 19 with (first | (refine wpList_store_row rfl 28 _ _ rfl w8.heap.size (sqC (concS (mvS t y)) vF) rfl rfl 28 #[.int .u32 0, .slice none 0 0, .int .i64 0, .bool false, .bool false, .bool false] (f5.out.at (i := 1) rfl) (by kernel_rfl) rfl H2.out ?_) | (refine wpList_store_row rfl 46 _ _ rfl (w8.heap.size + 1) (#[.int .u32 a2, vQ] : Array Value) rfl rfl 46 #[.int .u32 0, .slice none 0 0] (f6.out.at (i := 0) rfl) (by kernel_rfl) rfl H4.out ?_) | go_in)
            have f7 := Lib.hid (f6.out.put (i := 0) rfl (#[.int .u32 a2, vQ] : Array Value))
            obtain ⟨gb, hg8⟩ : ∃ g, w8.heap.size = g := ⟨_, rfl⟩
            obtain ⟨gq, hg9⟩ : ∃ g, gb + 1 = g := ⟨_, rfl⟩
            have F7 : Hid (Frm w ((((w8.alloc (.cells #[.int .u32 0, .slice none 0 0, .int .i64 0, .bool false, .bool false, .bool false] 28)).alloc (.cells #[.int .u32 0, .slice none 0 0] 46)).setRow w8.heap.size (sqC (concS (mvS t y)) vF)).setRow (w8.heap.size + 1) (#[.int .u32 a2, vQ] : Array Value)) [(w8.heap.size + 1, (#[.int .u32 a2, vQ] : Array Value), 46), (w8.heap.size, (sqC (concS (mvS t y)) vF), 28), (gp, (#[.int .u32 a1, vP] : Array Value), 46), (ga, (sqC (concS y) vE), 28), (go, #[.int .i64 kd, .slice B k eb, .int .i64 nn, .int .i64 sz], 33), (g2, (sqC (concS (mvS t x)) vB), 28), (g1, (sqC (concS x) vD), 28)] [([vQ], [bytesD ld]), ((sqC (concS (mvS t y)) vF).toList, sqD (concS (mvS t y))), ([vP], [bytesD ld]), ((sqC (concS y) vE).toList, sqD (concS y)), ([.slice B k eb], [bytesD D]), ((sqC (concS (mvS t x)) vB).toList, sqD (concS (mvS t x))), ((sqC (concS x) vD).toList, sqD (concS x))]) := f7
            generalize (((w8.alloc (.cells #[.int .u32 0, .slice none 0 0, .int .i64 0, .bool false, .bool false, .bool false] 28)).alloc (.cells #[.int .u32 0, .slice none 0 0] 46)).setRow w8.heap.size (sqC (concS (mvS t y)) vF)).setRow (w8.heap.size + 1) (#[.int .u32 a2, vQ] : Array Value) = w9 at F7 ⊢
            rw [hg8, hg9] at F7 ⊢
            clear F6 f5 f6 f7 hg8 hg9
            have N12 : Hid (g1 ≠ g2) := F7.out.ne (i := 6) (j := 5) rfl rfl (by decide)
            have NA1 : Hid (ga ≠ g1) := F7.out.ne (i := 3) (j := 6) rfl rfl (by decide)
            have NA2 : Hid (ga ≠ g2) := F7.out.ne (i := 3) (j := 5) rfl rfl (by decide)
            have NB1 : Hid (gb ≠ g1) := F7.out.ne (i := 1) (j := 6) rfl rfl (by decide)
            have NB2 : Hid (gb ≠ g2) := F7.out.ne (i := 1) (j := 5) rfl rfl (by decide)
            have HXA := Lib.hid (F7.out.at (i := 3) rfl)
            have HXB := Lib.hid (F7.out.at (i := 1) rfl)
            have HX1 := Lib.hid (F7.out.at (i := 6) rfl)
            have HX2 := Lib.hid (F7.out.at (i := 5) rfl)
            go_upto_region 19 with (fail)
            apply wp_region_relyG [2, 3] (OldT w9 2 g1 28 (sqC (concS x) vD) (sqC (concS y) vE) 3 g2 28 (sqC (concS (mvS t x)) vB) (sqC (concS (mvS t y)) vF)) (RL [Is (.agg (sqC (concS y) vE)), Is (.agg (sqC (concS (mvS t y)) vF)), Any, Any]) [false, false, false, false, false, false, false, false, false, false, false, false, false, false, false, false, false, false, false, false, false, false, false, false, false, false, false, false, false, false, false, false, false, false, false, false, false, false, false, false, false, false, false, false, false, false, false, false, false, false, false, false, false, false, false, false, false, false, false, false, false, false, false, false, false, false, false, false, false, false, false, false, false, false, false, false, false, false, false, false, false, false, false, false, false, false, false, false, false, false, false, false, false, false, false, false, false, false, false, false, false, false, false, false, false, false, false, true, true, false, false, false, false, false, false, false, false, false, false, false, false, false, false, false, false, false, false, false, false, false, false, false, false, false, false, false, false, false, false, false, false, false, false, false, false, false, false, false, false, false, false, false, false, false, false, false, false, false, false, false, false, false, false, false, false, false, false, false, false, false, false, false, false, false, false, false, false, false, false, false, false, false, false, false, false, false, false, false, false, false, false, false, false, false, false, false, false, false, false, false, false, false, false, false, false, false, false, false, false, false, false, false, false, false, false, false, false, false, false, false, false, false, false, false, false, false, false, false, false, false, false, false, false, false, false, false, false, false, false, false, false, false, false, false, false, false, false, false, false, false, false, false, false, false, false, false, false, false, false, false, false, false, false, false, false, false, false, false, false, false, false, false, false]
            · kernel_rfl
            · kernel_rfl
            · kernel_rfl
            · refine ⟨?_, ?_, ?_, ?_, trivial⟩
              · intro L ev w' hC hL hx K hK
                have e15 : ev (.tmp 15) = _ := hx.base 15 (by kernel_rfl)
                have HK := Lib.hid hK
                have HC := Lib.hid hC
                have HL := Lib.hid hL
                have HX := Lib.hid hx
                have hc := hx.cst
                skip
                clear hx hK hC hL
                have q1 : ev (.tmp 15) = .pointer (some ⟨ga, 0, none⟩) := e15
                have hld := run_loadVar_row (P := Try.prog) w' ga 28 28 (sqC (concS y) vE) (0, 0) _ (HC.out.keep HXA.out NA1.out NA2.out) Try.underlying28 rfl (by kernel_rfl)
                unfold Run
                rw [rely_load 28 _ rfl q1 hld]
                exact HK.out _ _ (.inl ⟨Below.refl _ _, by decide⟩) rfl
              · intro L ev w' hC hL hx K hK
                have e19 : ev (.tmp 19) = _ := hx.base 19 (by kernel_rfl)
                have HK := Lib.hid hK
                have HC := Lib.hid hC
                have HL := Lib.hid hL
                have HX := Lib.hid hx
                have hc := hx.cst
                skip
                clear hx hK hC hL
                have q1 : ev (.tmp 19) = .pointer (some ⟨gb, 0, none⟩) := e19
                have hld := run_loadVar_row (P := Try.prog) w' gb 28 28 (sqC (concS (mvS t y)) vF) (0, 0) _ (HC.out.keep HXB.out NB1.out NB2.out) Try.underlying28 rfl (by kernel_rfl)
                unfold Run
                rw [rely_load 28 _ rfl q1 hld]
                exact HK.out _ _ (.inl ⟨Below.refl _ _, by decide⟩) rfl
              · intro L ev w' hC hL hx K hK
                have e7 : ev (.tmp 7) = _ := hx.base 7 (by kernel_rfl)
                have e107 := hx.held 0 _ rfl (by kernel_rfl)
                change ev (.tmp 107) = _ at e107
                have HK := Lib.hid hK
                have HC := Lib.hid hC
                have HL := Lib.hid hL
                have HX := Lib.hid hx
                have hc := hx.cst
                skip
                clear hx hK hC hL
                have qv : ev (.tmp 107) = .agg (sqC (concS y) vE) := e107
                have nst : L 2 = false := HL.out
                have qp : ev (.tmp 7) = .pointer (some ⟨g1, 0, none⟩) := e7
                have hgh := HC.out.old1 nst
                have hnv := HC.out.store1 nst rfl N12.out (by decide)
                have hst := run_storeVar_row (P := Try.prog) w' g1 28 28 (sqC (concS x) vD) (sqC (concS y) vE) hgh (by kernel_rfl) rfl H1.out
                unfold Run
                rw [rely_store 28 _ _ rfl qp qv hst]
                refine HK.out _ _ (.inr ⟨hnv, fun j hj hlj u hr => ?_⟩) trivial
                rcases j with _ | _ | _ | _ | j
                · exact hr
                · exact hr
                · exact absurd rfl hj
                · exact trivial
                · exact trivial
              · intro L ev w' hC hL hx K hK
                have e8 : ev (.tmp 8) = _ := hx.base 8 (by kernel_rfl)
                have e108 := hx.held 1 _ rfl (by kernel_rfl)
                change ev (.tmp 108) = _ at e108
                have HK := Lib.hid hK
                have HC := Lib.hid hC
                have HL := Lib.hid hL
                have HX := Lib.hid hx
                have hc := hx.cst
                skip
                clear hx hK hC hL
                have qv : ev (.tmp 108) = .agg (sqC (concS (mvS t y)) vF) := e108
                have nst : L 3 = false := HL.out
                have qp : ev (.tmp 8) = .pointer (some ⟨g2, 0, none⟩) := e8
                have hgh := HC.out.old2 nst
                have hnv := HC.out.store2 nst rfl N12.out (by decide)
                have hst := run_storeVar_row (P := Try.prog) w' g2 28 28 (sqC (concS (mvS t x)) vB) (sqC (concS (mvS t y)) vF) hgh (by kernel_rfl) rfl H2.out
                unfold Run
                rw [rely_store 28 _ _ rfl qp qv hst]
                refine HK.out _ _ (.inr ⟨hnv, fun j hj hlj u hr => ?_⟩) trivial
                rcases j with _ | _ | _ | _ | j
                · exact hr
                · exact hr
                · exact trivial
                · exact absurd rfl hj
                · exact trivial
            · exact rl_mono ⟨is_mono _, is_mono _, any_mono, any_mono, trivial⟩
            · exact fun L L' w' h1 hg => hg.agree (h1 2 (by simp)) (h1 3 (by simp))
            · exact fun L w' w'' hb hg => hg.below hb
            · exact OldT.start HX1.out HX2.out
            · simp
            intro us wr hG hH
            obtain ⟨-, -, -, -, -⟩ := hH
            simp only [fillM]
            obtain ⟨hG9, hvn1, hvn2⟩ := hG
            have HVN1 : Hid (wr.heap[g1]? = some (.cells (sqC (concS y) vE) 28 (0, 0))) := hvn1
            have HVN2 : Hid (wr.heap[g2]? = some (.cells (sqC (concS (mvS t y)) vF) 28 (0, 0))) := hvn2
            have HG9 := Lib.hid hG9
            clear hG9 hvn1 hvn2
            generalize us 107 = v107
            generalize us 108 = v108
            have F8 := Lib.hid (F7.out.put2 (i := 6) (j := 5) rfl rfl (by decide) HG9.out HVN1.out HVN2.out)
            clear F7 HG9 HVN1 HVN2 HXA HXB HX1 HX2 N12 NA1 NA2 NB1 NB2
            rename World => wq
            have hcv1 := byt_text (rvs_cons.1 (F8.out.val (i := 2) rfl)).1 wq (Below.refl _ _)
            have hcv2 := byt_text (rvs_cons.1 (F8.out.val (i := 0) rfl)).1 wq (Below.refl _ _)
            have hbe : ((⟨ld.toArray⟩ : ByteArray).toList == (⟨ld.toArray⟩ : ByteArray).toList) = true := beq_self_eq_true _
            obtain ⟨p0, p1⟩ := two_cells (F8.out.at (i := 2) rfl)
            obtain ⟨q0, q1⟩ := two_cells (F8.out.at (i := 0) rfl)
            have HFZ : Hid (Frm w wq [(go, #[.int .i64 kd, .slice B k eb, .int .i64 nn, .int .i64 sz], 33), (g2, (sqC (concS (mvS t y)) vF), 28), (g1, (sqC (concS y) vE), 28)] [((sqC (concS (mvS t y)) vF).toList, sqD (concS (mvS t y))), ((sqC (concS y) vE).toList, sqD (concS y))]) := Lib.hid (F8.out.drop 4 rfl (fun p hp => by simp only [List.mem_cons, List.not_mem_nil, or_false] at hp ⊢; rcases hp with rfl | rfl <;> simp))
            clear F8
            have HDF : Hid (ok = true → (a1 - na) % 4294967296 = (a2 - nb) % 4294967296) := fun h => by have := HSQ.out h; rwa [HFN.out, HT.out] at this
            clear HSQ
            cases ok
            · clear HDF
              go_wp2
              go_meet
              case rel => exact ⟨y, vE, vF, HOY, HFY, HYL, HFZ⟩
            · have hdf := HDF.out rfl
              clear HDF
              go_wp2
              go_meet
              case rel => exact ⟨y, vE, vF, HOY, HFY, HYL, HFZ⟩
        · as_aux_lemma =>
            obtain ⟨a1, a2, ld, hP, hP2, hl2, hsq⟩ := next_both HOX.out t nn sz
            have HCA := Lib.hid (next18_any x (sqC (concS x) vD) _ nn sz w5 (F3.out.val (i := 2) rfl) HOX.out HN.out HSZ.out)
            have HCB : Hid (∀ w' S (hr : Rvs w' S (sqC (concS (mvS t x)) vB).toList (sqD (concS (mvS t x)))), Calls Try.prog 21 #[.agg (sqC (concS (mvS t x)) vB), .int .i64 nn, .int .i64 sz] w' fun e w'' => ∃ cs' ps : Array Value, e = .returned (.tuple #[.agg cs', .agg ps, .bool (nextE x nn sz), .bool (nextO x nn sz)]) ∧ Rvs w'' (fun b => S b ∨ w'.heap.size ≤ b) cs'.toList (sqD (concS (mvS t (nextS x nn sz)))) ∧ Rvs w'' (fun b => S b ∨ w'.heap.size ≤ b) ps.toList (nextP (mvS t x) nn sz) ∧ Below w'.heap.size w' w'') := fun w' S hr => next18_any (mvS t x) (sqC (concS (mvS t x)) vB) S nn sz w' hr HOM.out HN.out HSZ.out
            rw [hP] at HCA
            rw [hP2] at HCB
            have HOY := Lib.hid (next_okS HOX.out nn sz)
            have HFY : Hid ((nextS x nn sz).first = na) := HFN.out
            have HYL : Hid ((nextS x nn sz).all.length ≤ 400 * (i + 1)) := by show x.all.length ≤ _; omega
            have HSQ := Lib.hid hsq
            generalize nextE x nn sz = en at HCA HCB
            generalize nextO x nn sz = ok at HCA HCB HSQ
            obtain ⟨y, hy⟩ : ∃ y, nextS x nn sz = y := ⟨_, rfl⟩
            rw [hy] at HCA HCB HOY HYL HFY
            clear hy hP hP2 hsq HN HSZ
            go_wp2_with (refine wpList_load_row rfl 28 _ rfl g1 rfl 28 (sqC (concS x) vD) (0, 0) _ (F3.out.at (i := 2) rfl) Try.underlying28 rfl (by kernel_rfl) ?_)
            refine HCA.out.mono ?_
            rintro e w6 ⟨cs', ps, rfl, hr, hp, hb⟩
            obtain ⟨vE, rfl, -, h1⟩ := sq_of hr
            obtain ⟨vP, rfl, hvP, h2⟩ := pc_of hp
            have H1 := Lib.hid h1
            have H3 := Lib.hid h2
            have F4 := Lib.hid ((F3.out.res hb hr).more F3.out (us := [vP]) (ds := [bytesD ld]) (rvs_cons.2 ⟨hvP, rvs_nil⟩))
            clear h1 h2 hr hp hb hvP F3 o0 o1 o2 o3 HCA
            have f5 := Lib.hid ((F4.out.alloc #[.int .u32 0, .slice none 0 0, .int .i64 0, .bool false, .bool false, .bool false] 28).alloc #[.int .u32 0, .slice none 0 0] 46)
            rw [show (w6.alloc (.cells #[.int .u32 0, .slice none 0 0, .int .i64 0, .bool false, .bool false, .bool false] 28)).heap.size = w6.heap.size + 1 from by simp] at f5
            have f6 := Lib.hid (f5.out.put (i := 1) rfl (sqC (concS y) vE))
            go_upto_region 18 with (first | (refine wpList_store_row rfl 28 _ _ rfl w6.heap.size (sqC (concS y) vE) rfl rfl 28 #[.int .u32 0, .slice none 0 0, .int .i64 0, .bool false, .bool false, .bool false] (f5.out.at (i := 1) rfl) (by kernel_rfl) rfl H1.out ?_) | (refine wpList_store_row rfl 46 _ _ rfl (w6.heap.size + 1) (#[.int .u32 a1, vP] : Array Value) rfl rfl 46 #[.int .u32 0, .slice none 0 0] (f6.out.at (i := 0) rfl) (by kernel_rfl) rfl H3.out ?_) | go_in)
            have f7 := Lib.hid (f6.out.put (i := 0) rfl (#[.int .u32 a1, vP] : Array Value))
            obtain ⟨ga, hg8⟩ : ∃ g, w6.heap.size = g := ⟨_, rfl⟩
            obtain ⟨gp, hg9⟩ : ∃ g, ga + 1 = g := ⟨_, rfl⟩
            have F5 : Hid (Frm w ((((w6.alloc (.cells #[.int .u32 0, .slice none 0 0, .int .i64 0, .bool false, .bool false, .bool false] 28)).alloc (.cells #[.int .u32 0, .slice none 0 0] 46)).setRow w6.heap.size (sqC (concS y) vE)).setRow (w6.heap.size + 1) (#[.int .u32 a1, vP] : Array Value)) [(w6.heap.size + 1, (#[.int .u32 a1, vP] : Array Value), 46), (w6.heap.size, (sqC (concS y) vE), 28), (go, #[.int .i64 kd, .slice B k eb, .int .i64 nn, .int .i64 sz], 33), (g2, (sqC (concS (mvS t x)) vB), 28), (g1, (sqC (concS x) vD), 28)] [([vP], [bytesD ld]), ((sqC (concS y) vE).toList, sqD (concS y)), ([.slice B k eb], [bytesD D]), ((sqC (concS (mvS t x)) vB).toList, sqD (concS (mvS t x))), ((sqC (concS x) vD).toList, sqD (concS x))]) := f7
            generalize (((w6.alloc (.cells #[.int .u32 0, .slice none 0 0, .int .i64 0, .bool false, .bool false, .bool false] 28)).alloc (.cells #[.int .u32 0, .slice none 0 0] 46)).setRow w6.heap.size (sqC (concS y) vE)).setRow (w6.heap.size + 1) (#[.int .u32 a1, vP] : Array Value) = w7 at F5 ⊢
            rw [hg8, hg9] at F5 ⊢
            clear F4 f5 f6 f7 hg8 hg9
            obtain ⟨o0, o1, o2, o3⟩ := four_at (F5.out.at (i := 2) rfl)
            go_wp2_with (refine wpList_load_row rfl 28 _ rfl g2 rfl 28 (sqC (concS (mvS t x)) vB) (0, 0) _ (F5.out.at (i := 3) rfl) Try.underlying28 rfl (by kernel_rfl) ?_)
            refine (HCB.out _ _ (F5.out.val (i := 3) rfl)).mono ?_
            rintro e w8 ⟨cs', ps, rfl, hr, hp, hb⟩
            obtain ⟨vF, rfl, -, h1⟩ := sq_of hr
            obtain ⟨vQ, rfl, hvP, h2⟩ := pc_of hp
            have H2 := Lib.hid h1
            have H4 := Lib.hid h2
            have F6 := Lib.hid ((F5.out.res hb hr).more F5.out (us := [vQ]) (ds := [bytesD ld]) (rvs_cons.2 ⟨hvP, rvs_nil⟩))
            clear h1 h2 hr hp hb hvP F5 o0 o1 o2 o3 HCB
            have f5 := Lib.hid ((F6.out.alloc #[.int .u32 0, .slice none 0 0, .int .i64 0, .bool false, .bool false, .bool false] 28).alloc #[.int .u32 0, .slice none 0 0] 46)
            rw [show (w8.alloc (.cells #[.int .u32 0, .slice none 0 0, .int .i64 0, .bool false, .bool false, .bool false] 28)).heap.size = w8.heap.size + 1 from by simp] at f5
            have f6 := Lib.hid (f5.out.put (i := 1) rfl (sqC (concS (mvS t y)) vF))
            go_upto_region 19 with (first | (refine wpList_store_row rfl 28 _ _ rfl w8.heap.size (sqC (concS (mvS t y)) vF) rfl rfl 28 #[.int .u32 0, .slice none 0 0, .int .i64 0, .bool false, .bool false, .bool false] (f5.out.at (i := 1) rfl) (by kernel_rfl) rfl H2.out ?_) | (refine wpList_store_row rfl 46 _ _ rfl (w8.heap.size + 1) (#[.int .u32 a2, vQ] : Array Value) rfl rfl 46 #[.int .u32 0, .slice none 0 0] (f6.out.at (i := 0) rfl) (by kernel_rfl) rfl H4.out ?_) | go_in)
            have f7 := Lib.hid (f6.out.put (i := 0) rfl (#[.int .u32 a2, vQ] : Array Value))
            obtain ⟨gb, hg8⟩ : ∃ g, w8.heap.size = g := ⟨_, rfl⟩
            obtain ⟨gq, hg9⟩ : ∃ g, gb + 1 = g := ⟨_, rfl⟩
            have F7 : Hid (Frm w ((((w8.alloc (.cells #[.int .u32 0, .slice none 0 0, .int .i64 0, .bool false, .bool false, .bool false] 28)).alloc (.cells #[.int .u32 0, .slice none 0 0] 46)).setRow w8.heap.size (sqC (concS (mvS t y)) vF)).setRow (w8.heap.size + 1) (#[.int .u32 a2, vQ] : Array Value)) [(w8.heap.size + 1, (#[.int .u32 a2, vQ] : Array Value), 46), (w8.heap.size, (sqC (concS (mvS t y)) vF), 28), (gp, (#[.int .u32 a1, vP] : Array Value), 46), (ga, (sqC (concS y) vE), 28), (go, #[.int .i64 kd, .slice B k eb, .int .i64 nn, .int .i64 sz], 33), (g2, (sqC (concS (mvS t x)) vB), 28), (g1, (sqC (concS x) vD), 28)] [([vQ], [bytesD ld]), ((sqC (concS (mvS t y)) vF).toList, sqD (concS (mvS t y))), ([vP], [bytesD ld]), ((sqC (concS y) vE).toList, sqD (concS y)), ([.slice B k eb], [bytesD D]), ((sqC (concS (mvS t x)) vB).toList, sqD (concS (mvS t x))), ((sqC (concS x) vD).toList, sqD (concS x))]) := f7
            generalize (((w8.alloc (.cells #[.int .u32 0, .slice none 0 0, .int .i64 0, .bool false, .bool false, .bool false] 28)).alloc (.cells #[.int .u32 0, .slice none 0 0] 46)).setRow w8.heap.size (sqC (concS (mvS t y)) vF)).setRow (w8.heap.size + 1) (#[.int .u32 a2, vQ] : Array Value) = w9 at F7 ⊢
            rw [hg8, hg9] at F7 ⊢
            clear F6 f5 f6 f7 hg8 hg9
            have N12 : Hid (g1 ≠ g2) := F7.out.ne (i := 6) (j := 5) rfl rfl (by decide)
            have NA1 : Hid (ga ≠ g1) := F7.out.ne (i := 3) (j := 6) rfl rfl (by decide)
            have NA2 : Hid (ga ≠ g2) := F7.out.ne (i := 3) (j := 5) rfl rfl (by decide)
            have NB1 : Hid (gb ≠ g1) := F7.out.ne (i := 1) (j := 6) rfl rfl (by decide)
            have NB2 : Hid (gb ≠ g2) := F7.out.ne (i := 1) (j := 5) rfl rfl (by decide)
            have HXA := Lib.hid (F7.out.at (i := 3) rfl)
            have HXB := Lib.hid (F7.out.at (i := 1) rfl)
            have HX1 := Lib.hid (F7.out.at (i := 6) rfl)
            have HX2 := Lib.hid (F7.out.at (i := 5) rfl)
            go_upto_region 19 with (fail)
            apply wp_region_relyG [2, 3] (OldT w9 2 g1 28 (sqC (concS x) vD) (sqC (concS y) vE) 3 g2 28 (sqC (concS (mvS t x)) vB) (sqC (concS (mvS t y)) vF)) (RL [Is (.agg (sqC (concS y) vE)), Is (.agg (sqC (concS (mvS t y)) vF)), Any, Any]) [false, false, false, false, false, false, false, false, false, false, false, false, false, false, false, false, false, false, false, false, false, false, false, false, false, false, false, false, false, false, false, false, false, false, false, false, false, false, false, false, false, false, false, false, false, false, false, false, false, false, false, false, false, false, false, false, false, false, false, false, false, false, false, false, false, false, false, false, false, false, false, false, false, false, false, false, false, false, false, false, false, false, false, false, false, false, false, false, false, false, false, false, false, false, false, false, false, false, false, false, false, false, false, false, false, false, false, true, true, false, false, false, false, false, false, false, false, false, false, false, false, false, false, false, false, false, false, false, false, false, false, false, false, false, false, false, false, false, false, false, false, false, false, false, false, false, false, false, false, false, false, false, false, false, false, false, false, false, false, false, false, false, false, false, false, false, false, false, false, false, false, false, false, false, false, false, false, false, false, false, false, false, false, false, false, false, false, false, false, false, false, false, false, false, false, false, false, false, false, false, false, false, false, false, false, false, false, false, false, false, false, false, false, false, false, false, false, false, false, false, false, false, false, false, false, false, false, false, false, false, false, false, false, false, false, false, false, false, false, false, false, false, false, false, false, false, false, false, false, false, false, false, false, false, false, false, false, false, false, false, false, false, false, false, false, false, false, false, false, false, false, false, false]
            · kernel_rfl
            · kernel_rfl
            · kernel_rfl
            · refine ⟨?_, ?_, ?_, ?_, trivial⟩
              · intro L ev w' hC hL hx K hK
                have e15 : ev (.tmp 15) = _ := hx.base 15 (by kernel_rfl)
                have HK := Lib.hid hK
                have HC := Lib.hid hC
                have HL := Lib.hid hL
                have HX := Lib.hid hx
                have hc := hx.cst
                skip
                clear hx hK hC hL
                have q1 : ev (.tmp 15) = .pointer (some ⟨ga, 0, none⟩) := e15
                have hld := run_loadVar_row (P := Try.prog) w' ga 28 28 (sqC (concS y) vE) (0, 0) _ (HC.out.keep HXA.out NA1.out NA2.out) Try.underlying28 rfl (by kernel_rfl)
                unfold Run
                rw [rely_load 28 _ rfl q1 hld]
                exact HK.out _ _ (.inl ⟨Below.refl _ _, by decide⟩) rfl
              · intro L ev w' hC hL hx K hK
                have e19 : ev (.tmp 19) = _ := hx.base 19 (by kernel_rfl)
                have HK := Lib.hid hK
                have HC := Lib.hid hC
                have HL := Lib.hid hL
                have HX := Lib.hid hx
                have hc := hx.cst
                skip
                clear hx hK hC hL
                have q1 : ev (.tmp 19) = .pointer (some ⟨gb, 0, none⟩) := e19
                have hld := run_loadVar_row (P := Try.prog) w' gb 28 28 (sqC (concS (mvS t y)) vF) (0, 0) _ (HC.out.keep HXB.out NB1.out NB2.out) Try.underlying28 rfl (by kernel_rfl)
                unfold Run
                rw [rely_load 28 _ rfl q1 hld]
                exact HK.out _ _ (.inl ⟨Below.refl _ _, by decide⟩) rfl
              · intro L ev w' hC hL hx K hK
                have e7 : ev (.tmp 7) = _ := hx.base 7 (by kernel_rfl)
                have e107 := hx.held 0 _ rfl (by kernel_rfl)
                change ev (.tmp 107) = _ at e107
                have HK := Lib.hid hK
                have HC := Lib.hid hC
                have HL := Lib.hid hL
                have HX := Lib.hid hx
                have hc := hx.cst
                skip
                clear hx hK hC hL
                have qv : ev (.tmp 107) = .agg (sqC (concS y) vE) := e107
                have nst : L 2 = false := HL.out
                have qp : ev (.tmp 7) = .pointer (some ⟨g1, 0, none⟩) := e7
                have hgh := HC.out.old1 nst
                have hnv := HC.out.store1 nst rfl N12.out (by decide)
                have hst := run_storeVar_row (P := Try.prog) w' g1 28 28 (sqC (concS x) vD) (sqC (concS y) vE) hgh (by kernel_rfl) rfl H1.out
                unfold Run
                rw [rely_store 28 _ _ rfl qp qv hst]
                refine HK.out _ _ (.inr ⟨hnv, fun j hj hlj u hr => ?_⟩) trivial
                rcases j with _ | _ | _ | _ | j
                · exact hr
                · exact hr
                · exact absurd rfl hj
                · exact trivial
                · exact trivial
              · intro L ev w' hC hL hx K hK
                have e8 : ev (.tmp 8) = _ := hx.base 8 (by kernel_rfl)
                have e108 := hx.held 1 _ rfl (by kernel_rfl)
                change ev (.tmp 108) = _ at e108
                have HK := Lib.hid hK
                have HC := Lib.hid hC
                have HL := Lib.hid hL
                have HX := Lib.hid hx
                have hc := hx.cst
                skip
                clear hx hK hC hL
                have qv : ev (.tmp 108) = .agg (sqC (concS (mvS t y)) vF) := e108
                have nst : L 3 = false := HL.out
                have qp : ev (.tmp 8) = .pointer (some ⟨g2, 0, none⟩) := e8
                have hgh := HC.out.old2 nst
                have hnv := HC.out.store2 nst rfl N12.out (by decide)
                have hst := run_storeVar_row (P := Try.prog) w' g2 28 28 (sqC (concS (mvS t x)) vB) (sqC (concS (mvS t y)) vF) hgh (by kernel_rfl) rfl H2.out
                unfold Run
                rw [rely_store 28 _ _ rfl qp qv hst]
                refine HK.out _ _ (.inr ⟨hnv, fun j hj hlj u hr => ?_⟩) trivial
                rcases j with _ | _ | _ | _ | j
                · exact hr
                · exact hr
                · exact trivial
                · exact absurd rfl hj
                · exact trivial
            · exact rl_mono ⟨is_mono _, is_mono _, any_mono, any_mono, trivial⟩
            · exact fun L L' w' h1 hg => hg.agree (h1 2 (by simp)) (h1 3 (by simp))
            · exact fun L w' w'' hb hg => hg.below hb
            · exact OldT.start HX1.out HX2.out
            · simp
            intro us wr hG hH
            obtain ⟨-, -, -, -, -⟩ := hH
            simp only [fillM]
            obtain ⟨hG9, hvn1, hvn2⟩ := hG
            have HVN1 : Hid (wr.heap[g1]? = some (.cells (sqC (concS y) vE) 28 (0, 0))) := hvn1
            have HVN2 : Hid (wr.heap[g2]? = some (.cells (sqC (concS (mvS t y)) vF) 28 (0, 0))) := hvn2
            have HG9 := Lib.hid hG9
            clear hG9 hvn1 hvn2
            generalize us 107 = v107
            generalize us 108 = v108
            have F8 := Lib.hid (F7.out.put2 (i := 6) (j := 5) rfl rfl (by decide) HG9.out HVN1.out HVN2.out)
            clear F7 HG9 HVN1 HVN2 HXA HXB HX1 HX2 N12 NA1 NA2 NB1 NB2
            rename World => wq
            have hcv1 := byt_text (rvs_cons.1 (F8.out.val (i := 2) rfl)).1 wq (Below.refl _ _)
            have hcv2 := byt_text (rvs_cons.1 (F8.out.val (i := 0) rfl)).1 wq (Below.refl _ _)
            have hbe : ((⟨ld.toArray⟩ : ByteArray).toList == (⟨ld.toArray⟩ : ByteArray).toList) = true := beq_self_eq_true _
            obtain ⟨p0, p1⟩ := two_cells (F8.out.at (i := 2) rfl)
            obtain ⟨q0, q1⟩ := two_cells (F8.out.at (i := 0) rfl)
            have HFZ : Hid (Frm w wq [(go, #[.int .i64 kd, .slice B k eb, .int .i64 nn, .int .i64 sz], 33), (g2, (sqC (concS (mvS t y)) vF), 28), (g1, (sqC (concS y) vE), 28)] [((sqC (concS (mvS t y)) vF).toList, sqD (concS (mvS t y))), ((sqC (concS y) vE).toList, sqD (concS y))]) := Lib.hid (F8.out.drop 4 rfl (fun p hp => by simp only [List.mem_cons, List.not_mem_nil, or_false] at hp ⊢; rcases hp with rfl | rfl <;> simp))
            clear F8
            have HDF : Hid (ok = true → (a1 - na) % 4294967296 = (a2 - nb) % 4294967296) := fun h => by have := HSQ.out h; rwa [HFN.out, HT.out] at this
            clear HSQ
            cases ok
            · clear HDF
              go_wp2
              go_meet
              case rel => exact ⟨y, vE, vF, HOY, HFY, HYL, HFZ⟩
            · have hdf := HDF.out rfl
              clear HDF
              go_wp2
              go_meet
              case rel => exact ⟨y, vE, vF, HOY, HFY, HYL, HFZ⟩
        · as_aux_lemma =>
            obtain ⟨a1, a2, ld, hP, hP2, hl2, hsq⟩ := again_both HOX.out t sz
            have HCA := Lib.hid (again18_any x (sqC (concS x) vD) _ sz w5 (F3.out.val (i := 2) rfl) HOX.out HSZ.out)
            have HCB : Hid (∀ w' S (hr : Rvs w' S (sqC (concS (mvS t x)) vB).toList (sqD (concS (mvS t x)))), Calls Try.prog 22 #[.agg (sqC (concS (mvS t x)) vB), .int .i64 sz] w' fun e w'' => ∃ ps : Array Value, e = .returned (.tuple #[.agg ps, .bool (againE x sz), .bool (againO x sz)]) ∧ Rvs w'' (fun b => S b ∨ w'.heap.size ≤ b) ps.toList (againP (mvS t x) sz) ∧ Below w'.heap.size w' w'') := fun w' S hr => again18_any (mvS t x) (sqC (concS (mvS t x)) vB) S sz w' hr HOM.out HSZ.out
            rw [hP] at HCA
            rw [hP2] at HCB
            have HSQ := Lib.hid hsq
            generalize againE x sz = en at HCA HCB
            generalize againO x sz = ok at HCA HCB HSQ
            clear hP hP2 hsq HN HSZ
            go_wp2_with (refine wpList_load_row rfl 28 _ rfl g1 rfl 28 (sqC (concS x) vD) (0, 0) _ (F3.out.at (i := 2) rfl) Try.underlying28 rfl (by kernel_rfl) ?_)
            refine HCA.out.mono ?_
            rintro e w6 ⟨ps, rfl, hp, hb⟩
            obtain ⟨vP, rfl, hvP, h2⟩ := pc_of hp
            have H3 := Lib.hid h2
            have F4 := Lib.hid (F3.out.res hb (us := [vP]) (ds := [bytesD ld]) (rvs_cons.2 ⟨hvP, rvs_nil⟩))
            clear h2 hp hb hvP F3 o0 o1 o2 o3 HCA
            go_upto_region 24 with (first | (refine wpList_store_new rfl 46 _ _ rfl w6 #[.int .u32 0, .slice none 0 0] (#[.int .u32 a1, vP] : Array Value) rfl rfl (by kernel_rfl) rfl H3.out ?_) | go_in)
            have F5 := Lib.hid (F4.out.alloc (#[.int .u32 a1, vP] : Array Value) 46)
            obtain ⟨gp, hg9⟩ : ∃ g, w6.heap.size = g := ⟨_, rfl⟩
            rw [hg9] at F5 ⊢
            change Code.wp _ _ _ _ (w6.alloc (.cells (#[.int .u32 a1, vP] : Array Value) 46))
            generalize w6.alloc (.cells (#[.int .u32 a1, vP] : Array Value) 46) = w7 at F5 ⊢
            clear F4 hg9
            obtain ⟨o0, o1, o2, o3⟩ := four_at (F5.out.at (i := 1) rfl)
            go_wp2_with (refine wpList_load_row rfl 28 _ rfl g2 rfl 28 (sqC (concS (mvS t x)) vB) (0, 0) _ (F5.out.at (i := 2) rfl) Try.underlying28 rfl (by kernel_rfl) ?_)
            refine (HCB.out _ _ (F5.out.val (i := 2) rfl)).mono ?_
            rintro e w8 ⟨ps, rfl, hp, hb⟩
            obtain ⟨vQ, rfl, hvP, h2⟩ := pc_of hp
            have H4 := Lib.hid h2
            have F6 := Lib.hid (F5.out.res hb (us := [vQ]) (ds := [bytesD ld]) (rvs_cons.2 ⟨hvP, rvs_nil⟩))
            clear h2 hp hb hvP F5 o0 o1 o2 o3 HCB
            go_upto_region 25 with (first | (refine wpList_store_new rfl 46 _ _ rfl w8 #[.int .u32 0, .slice none 0 0] (#[.int .u32 a2, vQ] : Array Value) rfl rfl (by kernel_rfl) rfl H4.out ?_) | go_in)
            have F8 := Lib.hid (F6.out.alloc (#[.int .u32 a2, vQ] : Array Value) 46)
            obtain ⟨gq, hg9⟩ : ∃ g, w8.heap.size = g := ⟨_, rfl⟩
            rw [hg9] at F8 ⊢
            change Code.wp _ _ _ _ (w8.alloc (.cells (#[.int .u32 a2, vQ] : Array Value) 46))
            generalize w8.alloc (.cells (#[.int .u32 a2, vQ] : Array Value) 46) = wq at F8 ⊢
            clear F6 hg9
            have hcv1 := byt_text (rvs_cons.1 (F8.out.val (i := 1) rfl)).1 wq (Below.refl _ _)
            have hcv2 := byt_text (rvs_cons.1 (F8.out.val (i := 0) rfl)).1 wq (Below.refl _ _)
            have hbe : ((⟨ld.toArray⟩ : ByteArray).toList == (⟨ld.toArray⟩ : ByteArray).toList) = true := beq_self_eq_true _
            obtain ⟨p0, p1⟩ := two_cells (F8.out.at (i := 1) rfl)
            obtain ⟨q0, q1⟩ := two_cells (F8.out.at (i := 0) rfl)
            have HFZ : Hid (Frm w wq [(go, #[.int .i64 kd, .slice B k eb, .int .i64 nn, .int .i64 sz], 33), (g2, (sqC (concS (mvS t x)) vB), 28), (g1, (sqC (concS x) vD), 28)] [((sqC (concS (mvS t x)) vB).toList, sqD (concS (mvS t x))), ((sqC (concS x) vD).toList, sqD (concS x))]) := Lib.hid (F8.out.drop 2 rfl (fun p hp => by simp only [List.mem_cons, List.not_mem_nil, or_false] at hp ⊢; rcases hp with rfl | rfl <;> simp))
            clear F8
            have HDF : Hid (ok = true → (a1 - na) % 4294967296 = (a2 - nb) % 4294967296) := fun h => by have := HSQ.out h; rwa [HFN.out, HT.out] at this
            clear HSQ
            cases ok
            · clear HDF
              go_wp2
              go_meet
              case rel => exact ⟨x, vD, vB, HOX, HFN, by show _ ≤ _; omega, HFZ⟩
            · have hdf := HDF.out rfl
              clear HDF
              go_wp2
              go_meet
              case rel => exact ⟨x, vD, vB, HOX, HFN, by show _ ≤ _; omega, HFZ⟩
        · as_aux_lemma =>
            have HWA : Hid (((concS x).una + nn % 4294967296) % 4294967296 = addS (addS x.first x.acked) nn) := wrap_add (concS x).una nn
            have HAU : Hid (U32 (addS (addS x.first x.acked) nn)) := ⟨addS_ge _ _, addS_le _ _⟩
            have HWM : Hid (((concS (mvS t x)).una + nn) % 4294967296 = addS (addS (addS x.first x.acked) nn) t) := by
              show (addS (addS x.first t) x.acked + nn) % _ = _
              unfold addS
              omega
            obtain ⟨AT, hAT⟩ : ∃ AT, addS (addS x.first x.acked) nn = AT := ⟨_, rfl⟩
            rw [hAT] at HWA HAU HWM
            have HWB : Hid (((concS x).una + nn) % 4294967296 = AT) := by have := HWA.out; show _ = _; omega
            have HAM : Hid (U32 (addS AT t)) := ⟨addS_ge _ _, addS_le _ _⟩
            have HCA := Lib.hid (fun w' S (hr : Rvs w' S (sqC (concS x) vD).toList (sqD (concS x))) => ack18_any x (sqC (concS x) vD) S AT w' hr HOX.out HAU.out)
            have HCB : Hid (∀ w' S (hr : Rvs w' S (sqC (concS (mvS t x)) vB).toList (sqD (concS (mvS t x)))), Calls Try.prog 23 #[.agg (sqC (concS (mvS t x)) vB), .int .u32 (addS AT t)] w' fun e w'' => ∃ cs' : Array Value, e = .returned (.tuple #[.agg cs', .int .i64 (ackN x AT), .int .i64 (ackE x AT)]) ∧ Rvs w'' (fun b => S b ∨ w'.heap.size ≤ b) cs'.toList (sqD (concS (mvS t (ackS x AT)))) ∧ Below w'.heap.size w' w'') := fun w' S hr => by
              have h := ack18_any (mvS t x) (sqC (concS (mvS t x)) vB) S (addS AT t) w' hr HOM.out HAM.out
              rw [ack_movedS] at h
              have e1 : ackN (mvS t x) (addS AT t) = ackN x AT := by
                unfold ackN ackO
                rw [ackD_moved]
                rfl
              have e2 : ackE (mvS t x) (addS AT t) = ackE x AT := by
                unfold ackE
                rw [ackD_moved]
                rfl
              rw [e1, e2] at h
              exact h
            have HOY := Lib.hid (ack_okS HOX.out AT)
            have HYX := Lib.hid (ack_sent x AT)
            generalize ackE x AT = ae at HCA HCB
            obtain ⟨y, hy⟩ : ∃ y, ackS x AT = y := ⟨_, rfl⟩
            rw [hy] at HCA HCB HOY HYX
            have HFY : Hid (y.first = na) := HYX.out.2.2.2.1.trans HFN.out
            have HYL : Hid (y.all.length ≤ 400 * (i + 1)) := by show _ ≤ _; rw [HYX.out.2.1]; omega
            clear HYX
            generalize ackN x AT = an at HCA HCB
            clear hy hAT HN HSZ
            have q0 := sq_cells (F3.out.at (i := 2) rfl)
            go_wp2_with (refine wpList_load_row rfl 28 _ rfl g1 rfl 28 (sqC (concS x) vD) (0, 0) _ (F3.out.at (i := 2) rfl) Try.underlying28 rfl (by kernel_rfl) ?_)
            first | rw [HWB.out] | rw [HWA.out]
            refine (HCA.out _ _ (F3.out.val (i := 2) rfl)).mono ?_
            rintro e w6 ⟨cs', rfl, hr, hb⟩
            obtain ⟨vE, rfl, -, h1⟩ := sq_of hr
            have H1 := Lib.hid h1
            have F4 := Lib.hid (F3.out.res hb hr)
            clear h1 hr hb F3 HCA o0 o1 o2 o3 q0 HWA HWB
            go_upto_region 30 with (first | (refine wpList_store_new rfl 28 _ _ rfl w6 #[.int .u32 0, .slice none 0 0, .int .i64 0, .bool false, .bool false, .bool false] (sqC (concS y) vE) rfl rfl (by kernel_rfl) rfl H1.out ?_) | go_in)
            have F5 := Lib.hid (F4.out.alloc (sqC (concS y) vE) 28)
            obtain ⟨ga, hg9⟩ : ∃ g, w6.heap.size = g := ⟨_, rfl⟩
            rw [hg9] at F5 ⊢
            change Code.wp _ _ _ _ (w6.alloc (.cells (sqC (concS y) vE) 28))
            generalize w6.alloc (.cells (sqC (concS y) vE) 28) = w7 at F5 ⊢
            clear F4 hg9
            obtain ⟨o0, o1, o2, o3⟩ := four_at (F5.out.at (i := 1) rfl)
            have q0 := sq_cells (F5.out.at (i := 2) rfl)
            go_wp2_with (refine wpList_load_row rfl 28 _ rfl g2 rfl 28 (sqC (concS (mvS t x)) vB) (0, 0) _ (F5.out.at (i := 2) rfl) Try.underlying28 rfl (by kernel_rfl) ?_)
            rw [HWM.out]
            refine (HCB.out _ _ (F5.out.val (i := 2) rfl)).mono ?_
            rintro e w8 ⟨cs', rfl, hr, hb⟩
            obtain ⟨vF, rfl, -, h1⟩ := sq_of hr
            have H2 := Lib.hid h1
            have F6 := Lib.hid (F5.out.res hb hr)
            clear h1 hr hb F5 HCB o0 o1 o2 o3 q0 HWM
            go_upto_region 31 with (first | (refine wpList_store_new rfl 28 _ _ rfl w8 #[.int .u32 0, .slice none 0 0, .int .i64 0, .bool false, .bool false, .bool false] (sqC (concS (mvS t y)) vF) rfl rfl (by kernel_rfl) rfl H2.out ?_) | go_in)
            have F7 := Lib.hid (F6.out.alloc (sqC (concS (mvS t y)) vF) 28)
            obtain ⟨gb, hg9⟩ : ∃ g, w8.heap.size = g := ⟨_, rfl⟩
            rw [hg9] at F7 ⊢
            change Code.wp _ _ _ _ (w8.alloc (.cells (sqC (concS (mvS t y)) vF) 28))
            generalize w8.alloc (.cells (sqC (concS (mvS t y)) vF) 28) = w9 at F7 ⊢
            clear F6 hg9
            have N12 : Hid (g1 ≠ g2) := F7.out.ne (i := 4) (j := 3) rfl rfl (by decide)
            have NA1 : Hid (ga ≠ g1) := F7.out.ne (i := 1) (j := 4) rfl rfl (by decide)
            have NA2 : Hid (ga ≠ g2) := F7.out.ne (i := 1) (j := 3) rfl rfl (by decide)
            have NB1 : Hid (gb ≠ g1) := F7.out.ne (i := 0) (j := 4) rfl rfl (by decide)
            have NB2 : Hid (gb ≠ g2) := F7.out.ne (i := 0) (j := 3) rfl rfl (by decide)
            have HXA := Lib.hid (F7.out.at (i := 1) rfl)
            have HXB := Lib.hid (F7.out.at (i := 0) rfl)
            have HX1 := Lib.hid (F7.out.at (i := 4) rfl)
            have HX2 := Lib.hid (F7.out.at (i := 3) rfl)
            go_upto_region 31 with (fail)
            apply wp_region_relyG [2, 3] (OldT w9 2 g1 28 (sqC (concS x) vD) (sqC (concS y) vE) 3 g2 28 (sqC (concS (mvS t x)) vB) (sqC (concS (mvS t y)) vF)) (RL [Is (.agg (sqC (concS y) vE)), Is (.agg (sqC (concS (mvS t y)) vF)), Any, Any]) [false, false, false, false, false, false, false, false, false, false, false, false, false, false, false, false, false, false, false, false, false, false, false, false, false, false, false, false, false, false, false, false, false, false, false, false, false, false, false, false, false, false, false, false, false, false, false, false, false, false, false, false, false, false, false, false, false, false, false, false, false, false, false, false, false, false, false, false, false, false, false, false, false, false, false, false, false, false, false, false, false, false, false, false, false, false, false, false, false, false, false, false, false, false, false, false, false, false, false, false, false, false, false, false, false, false, false, false, false, false, false, false, false, false, false, false, false, false, false, false, false, false, false, false, false, false, false, false, false, false, false, false, false, false, false, false, false, false, false, false, false, false, false, false, false, false, false, false, false, false, false, false, false, false, false, false, false, false, false, false, false, false, false, false, false, false, false, false, false, false, false, false, false, false, false, false, false, false, false, false, false, false, false, false, false, false, false, false, false, false, false, false, false, false, false, false, false, false, false, false, false, false, false, false, false, false, false, false, false, false, false, false, false, false, false, false, true, true, false, false, false, false, false, false, false, false, false, false, false, false, false, false, false, false, false, false, false, false, false, false, false, false, false, false, false, false, false, false, false, false, false, false, false, false, false, false, false, false, false, false, false, false, false, false, false, false, false, false, false, false, false, false, false]
            · kernel_rfl
            · kernel_rfl
            · kernel_rfl
            · refine ⟨?_, ?_, ?_, ?_, trivial⟩
              · intro L ev w' hC hL hx K hK
                have e29 : ev (.tmp 29) = _ := hx.base 29 (by kernel_rfl)
                have HK := Lib.hid hK
                have HC := Lib.hid hC
                have HL := Lib.hid hL
                have HX := Lib.hid hx
                have hc := hx.cst
                skip
                clear hx hK hC hL
                have q1 : ev (.tmp 29) = .pointer (some ⟨ga, 0, none⟩) := e29
                have hld := run_loadVar_row (P := Try.prog) w' ga 28 28 (sqC (concS y) vE) (0, 0) _ (HC.out.keep HXA.out NA1.out NA2.out) Try.underlying28 rfl (by kernel_rfl)
                unfold Run
                rw [rely_load 28 _ rfl q1 hld]
                exact HK.out _ _ (.inl ⟨Below.refl _ _, by decide⟩) rfl
              · intro L ev w' hC hL hx K hK
                have e32 : ev (.tmp 32) = _ := hx.base 32 (by kernel_rfl)
                have HK := Lib.hid hK
                have HC := Lib.hid hC
                have HL := Lib.hid hL
                have HX := Lib.hid hx
                have hc := hx.cst
                skip
                clear hx hK hC hL
                have q1 : ev (.tmp 32) = .pointer (some ⟨gb, 0, none⟩) := e32
                have hld := run_loadVar_row (P := Try.prog) w' gb 28 28 (sqC (concS (mvS t y)) vF) (0, 0) _ (HC.out.keep HXB.out NB1.out NB2.out) Try.underlying28 rfl (by kernel_rfl)
                unfold Run
                rw [rely_load 28 _ rfl q1 hld]
                exact HK.out _ _ (.inl ⟨Below.refl _ _, by decide⟩) rfl
              · intro L ev w' hC hL hx K hK
                have e7 : ev (.tmp 7) = _ := hx.base 7 (by kernel_rfl)
                have e216 := hx.held 0 _ rfl (by kernel_rfl)
                change ev (.tmp 216) = _ at e216
                have HK := Lib.hid hK
                have HC := Lib.hid hC
                have HL := Lib.hid hL
                have HX := Lib.hid hx
                have hc := hx.cst
                skip
                clear hx hK hC hL
                have qv : ev (.tmp 216) = .agg (sqC (concS y) vE) := e216
                have nst : L 2 = false := HL.out
                have qp : ev (.tmp 7) = .pointer (some ⟨g1, 0, none⟩) := e7
                have hgh := HC.out.old1 nst
                have hnv := HC.out.store1 nst rfl N12.out (by decide)
                have hst := run_storeVar_row (P := Try.prog) w' g1 28 28 (sqC (concS x) vD) (sqC (concS y) vE) hgh (by kernel_rfl) rfl H1.out
                unfold Run
                rw [rely_store 28 _ _ rfl qp qv hst]
                refine HK.out _ _ (.inr ⟨hnv, fun j hj hlj u hr => ?_⟩) trivial
                rcases j with _ | _ | _ | _ | j
                · exact hr
                · exact hr
                · exact absurd rfl hj
                · exact trivial
                · exact trivial
              · intro L ev w' hC hL hx K hK
                have e8 : ev (.tmp 8) = _ := hx.base 8 (by kernel_rfl)
                have e217 := hx.held 1 _ rfl (by kernel_rfl)
                change ev (.tmp 217) = _ at e217
                have HK := Lib.hid hK
                have HC := Lib.hid hC
                have HL := Lib.hid hL
                have HX := Lib.hid hx
                have hc := hx.cst
                skip
                clear hx hK hC hL
                have qv : ev (.tmp 217) = .agg (sqC (concS (mvS t y)) vF) := e217
                have nst : L 3 = false := HL.out
                have qp : ev (.tmp 8) = .pointer (some ⟨g2, 0, none⟩) := e8
                have hgh := HC.out.old2 nst
                have hnv := HC.out.store2 nst rfl N12.out (by decide)
                have hst := run_storeVar_row (P := Try.prog) w' g2 28 28 (sqC (concS (mvS t x)) vB) (sqC (concS (mvS t y)) vF) hgh (by kernel_rfl) rfl H2.out
                unfold Run
                rw [rely_store 28 _ _ rfl qp qv hst]
                refine HK.out _ _ (.inr ⟨hnv, fun j hj hlj u hr => ?_⟩) trivial
                rcases j with _ | _ | _ | _ | j
                · exact hr
                · exact hr
                · exact trivial
                · exact absurd rfl hj
                · exact trivial
            · exact rl_mono ⟨is_mono _, is_mono _, any_mono, any_mono, trivial⟩
            · exact fun L L' w' h1 hg => hg.agree (h1 2 (by simp)) (h1 3 (by simp))
            · exact fun L w' w'' hb hg => hg.below hb
            · exact OldT.start HX1.out HX2.out
            · simp
            intro us wr hG hH
            obtain ⟨-, -, -, -, -⟩ := hH
            simp only [fillM]
            obtain ⟨hG9, hvn1, hvn2⟩ := hG
            have HVN1 : Hid (wr.heap[g1]? = some (.cells (sqC (concS y) vE) 28 (0, 0))) := hvn1
            have HVN2 : Hid (wr.heap[g2]? = some (.cells (sqC (concS (mvS t y)) vF) 28 (0, 0))) := hvn2
            have HG9 := Lib.hid hG9
            clear hG9 hvn1 hvn2
            generalize us 216 = v216
            generalize us 217 = v217
            have F8 := Lib.hid (F7.out.put2 (i := 4) (j := 3) rfl rfl (by decide) HG9.out HVN1.out HVN2.out)
            clear F7 HG9 HVN1 HVN2 HXA HXB HX1 HX2 N12 NA1 NA2 NB1 NB2
            rename World => wq
            have HFZ : Hid (Frm w wq [(go, #[.int .i64 kd, .slice B k eb, .int .i64 nn, .int .i64 sz], 33), (g2, (sqC (concS (mvS t y)) vF), 28), (g1, (sqC (concS y) vE), 28)] [((sqC (concS (mvS t y)) vF).toList, sqD (concS (mvS t y))), ((sqC (concS y) vE).toList, sqD (concS y))]) := Lib.hid (F8.out.drop 2 rfl (fun p hp => by simp only [List.mem_cons, List.not_mem_nil, or_false] at hp ⊢; rcases hp with rfl | rfl <;> simp))
            clear F8
            go_wp2
            go_meet
            case rel => exact ⟨y, vE, vF, HOY, HFY, HYL, HFZ⟩
        · as_aux_lemma =>
            have HWA : Hid (((concS x).una + nn % 4294967296) % 4294967296 = addS (addS x.first x.acked) nn) := wrap_add (concS x).una nn
            have HAU : Hid (U32 (addS (addS x.first x.acked) nn)) := ⟨addS_ge _ _, addS_le _ _⟩
            have HWM : Hid (((concS (mvS t x)).una + nn) % 4294967296 = addS (addS (addS x.first x.acked) nn) t) := by
              show (addS (addS x.first t) x.acked + nn) % _ = _
              unfold addS
              omega
            obtain ⟨AT, hAT⟩ : ∃ AT, addS (addS x.first x.acked) nn = AT := ⟨_, rfl⟩
            rw [hAT] at HWA HAU HWM
            have HWB : Hid (((concS x).una + nn) % 4294967296 = AT) := by have := HWA.out; show _ = _; omega
            have HAM : Hid (U32 (addS AT t)) := ⟨addS_ge _ _, addS_le _ _⟩
            have HCA := Lib.hid (fun w' S (hr : Rvs w' S (sqC (concS x) vD).toList (sqD (concS x))) => ack18_any x (sqC (concS x) vD) S AT w' hr HOX.out HAU.out)
            have HCB : Hid (∀ w' S (hr : Rvs w' S (sqC (concS (mvS t x)) vB).toList (sqD (concS (mvS t x)))), Calls Try.prog 23 #[.agg (sqC (concS (mvS t x)) vB), .int .u32 (addS AT t)] w' fun e w'' => ∃ cs' : Array Value, e = .returned (.tuple #[.agg cs', .int .i64 (ackN x AT), .int .i64 (ackE x AT)]) ∧ Rvs w'' (fun b => S b ∨ w'.heap.size ≤ b) cs'.toList (sqD (concS (mvS t (ackS x AT)))) ∧ Below w'.heap.size w' w'') := fun w' S hr => by
              have h := ack18_any (mvS t x) (sqC (concS (mvS t x)) vB) S (addS AT t) w' hr HOM.out HAM.out
              rw [ack_movedS] at h
              have e1 : ackN (mvS t x) (addS AT t) = ackN x AT := by
                unfold ackN ackO
                rw [ackD_moved]
                rfl
              have e2 : ackE (mvS t x) (addS AT t) = ackE x AT := by
                unfold ackE
                rw [ackD_moved]
                rfl
              rw [e1, e2] at h
              exact h
            have HOY := Lib.hid (ack_okS HOX.out AT)
            have HYX := Lib.hid (ack_sent x AT)
            generalize ackE x AT = ae at HCA HCB
            obtain ⟨y, hy⟩ : ∃ y, ackS x AT = y := ⟨_, rfl⟩
            rw [hy] at HCA HCB HOY HYX
            have HFY : Hid (y.first = na) := HYX.out.2.2.2.1.trans HFN.out
            have HYL : Hid (y.all.length ≤ 400 * (i + 1)) := by show _ ≤ _; rw [HYX.out.2.1]; omega
            clear HYX
            generalize ackN x AT = an at HCA HCB
            clear hy hAT HN HSZ
            have q0 := sq_cells (F3.out.at (i := 2) rfl)
            go_wp2_with (refine wpList_load_row rfl 28 _ rfl g1 rfl 28 (sqC (concS x) vD) (0, 0) _ (F3.out.at (i := 2) rfl) Try.underlying28 rfl (by kernel_rfl) ?_)
            first | rw [HWB.out] | rw [HWA.out]
            refine (HCA.out _ _ (F3.out.val (i := 2) rfl)).mono ?_
            rintro e w6 ⟨cs', rfl, hr, hb⟩
            obtain ⟨vE, rfl, -, h1⟩ := sq_of hr
            have H1 := Lib.hid h1
            have F4 := Lib.hid (F3.out.res hb hr)
            clear h1 hr hb F3 HCA o0 o1 o2 o3 q0 HWA HWB
            go_upto_region 30 with (first | (refine wpList_store_new rfl 28 _ _ rfl w6 #[.int .u32 0, .slice none 0 0, .int .i64 0, .bool false, .bool false, .bool false] (sqC (concS y) vE) rfl rfl (by kernel_rfl) rfl H1.out ?_) | go_in)
            have F5 := Lib.hid (F4.out.alloc (sqC (concS y) vE) 28)
            obtain ⟨ga, hg9⟩ : ∃ g, w6.heap.size = g := ⟨_, rfl⟩
            rw [hg9] at F5 ⊢
            change Code.wp _ _ _ _ (w6.alloc (.cells (sqC (concS y) vE) 28))
            generalize w6.alloc (.cells (sqC (concS y) vE) 28) = w7 at F5 ⊢
            clear F4 hg9
            obtain ⟨o0, o1, o2, o3⟩ := four_at (F5.out.at (i := 1) rfl)
            have q0 := sq_cells (F5.out.at (i := 2) rfl)
            go_wp2_with (refine wpList_load_row rfl 28 _ rfl g2 rfl 28 (sqC (concS (mvS t x)) vB) (0, 0) _ (F5.out.at (i := 2) rfl) Try.underlying28 rfl (by kernel_rfl) ?_)
            rw [HWM.out]
            refine (HCB.out _ _ (F5.out.val (i := 2) rfl)).mono ?_
            rintro e w8 ⟨cs', rfl, hr, hb⟩
            obtain ⟨vF, rfl, -, h1⟩ := sq_of hr
            have H2 := Lib.hid h1
            have F6 := Lib.hid (F5.out.res hb hr)
            clear h1 hr hb F5 HCB o0 o1 o2 o3 q0 HWM
            go_upto_region 31 with (first | (refine wpList_store_new rfl 28 _ _ rfl w8 #[.int .u32 0, .slice none 0 0, .int .i64 0, .bool false, .bool false, .bool false] (sqC (concS (mvS t y)) vF) rfl rfl (by kernel_rfl) rfl H2.out ?_) | go_in)
            have F7 := Lib.hid (F6.out.alloc (sqC (concS (mvS t y)) vF) 28)
            obtain ⟨gb, hg9⟩ : ∃ g, w8.heap.size = g := ⟨_, rfl⟩
            rw [hg9] at F7 ⊢
            change Code.wp _ _ _ _ (w8.alloc (.cells (sqC (concS (mvS t y)) vF) 28))
            generalize w8.alloc (.cells (sqC (concS (mvS t y)) vF) 28) = w9 at F7 ⊢
            clear F6 hg9
            have N12 : Hid (g1 ≠ g2) := F7.out.ne (i := 4) (j := 3) rfl rfl (by decide)
            have NA1 : Hid (ga ≠ g1) := F7.out.ne (i := 1) (j := 4) rfl rfl (by decide)
            have NA2 : Hid (ga ≠ g2) := F7.out.ne (i := 1) (j := 3) rfl rfl (by decide)
            have NB1 : Hid (gb ≠ g1) := F7.out.ne (i := 0) (j := 4) rfl rfl (by decide)
            have NB2 : Hid (gb ≠ g2) := F7.out.ne (i := 0) (j := 3) rfl rfl (by decide)
            have HXA := Lib.hid (F7.out.at (i := 1) rfl)
            have HXB := Lib.hid (F7.out.at (i := 0) rfl)
            have HX1 := Lib.hid (F7.out.at (i := 4) rfl)
            have HX2 := Lib.hid (F7.out.at (i := 3) rfl)
            go_upto_region 31 with (fail)
            apply wp_region_relyG [2, 3] (OldT w9 2 g1 28 (sqC (concS x) vD) (sqC (concS y) vE) 3 g2 28 (sqC (concS (mvS t x)) vB) (sqC (concS (mvS t y)) vF)) (RL [Is (.agg (sqC (concS y) vE)), Is (.agg (sqC (concS (mvS t y)) vF)), Any, Any]) [false, false, false, false, false, false, false, false, false, false, false, false, false, false, false, false, false, false, false, false, false, false, false, false, false, false, false, false, false, false, false, false, false, false, false, false, false, false, false, false, false, false, false, false, false, false, false, false, false, false, false, false, false, false, false, false, false, false, false, false, false, false, false, false, false, false, false, false, false, false, false, false, false, false, false, false, false, false, false, false, false, false, false, false, false, false, false, false, false, false, false, false, false, false, false, false, false, false, false, false, false, false, false, false, false, false, false, false, false, false, false, false, false, false, false, false, false, false, false, false, false, false, false, false, false, false, false, false, false, false, false, false, false, false, false, false, false, false, false, false, false, false, false, false, false, false, false, false, false, false, false, false, false, false, false, false, false, false, false, false, false, false, false, false, false, false, false, false, false, false, false, false, false, false, false, false, false, false, false, false, false, false, false, false, false, false, false, false, false, false, false, false, false, false, false, false, false, false, false, false, false, false, false, false, false, false, false, false, false, false, false, false, false, false, false, false, true, true, false, false, false, false, false, false, false, false, false, false, false, false, false, false, false, false, false, false, false, false, false, false, false, false, false, false, false, false, false, false, false, false, false, false, false, false, false, false, false, false, false, false, false, false, false, false, false, false, false, false, false, false, false, false, false]
            · kernel_rfl
            · kernel_rfl
            · kernel_rfl
            · refine ⟨?_, ?_, ?_, ?_, trivial⟩
              · intro L ev w' hC hL hx K hK
                have e29 : ev (.tmp 29) = _ := hx.base 29 (by kernel_rfl)
                have HK := Lib.hid hK
                have HC := Lib.hid hC
                have HL := Lib.hid hL
                have HX := Lib.hid hx
                have hc := hx.cst
                skip
                clear hx hK hC hL
                have q1 : ev (.tmp 29) = .pointer (some ⟨ga, 0, none⟩) := e29
                have hld := run_loadVar_row (P := Try.prog) w' ga 28 28 (sqC (concS y) vE) (0, 0) _ (HC.out.keep HXA.out NA1.out NA2.out) Try.underlying28 rfl (by kernel_rfl)
                unfold Run
                rw [rely_load 28 _ rfl q1 hld]
                exact HK.out _ _ (.inl ⟨Below.refl _ _, by decide⟩) rfl
              · intro L ev w' hC hL hx K hK
                have e32 : ev (.tmp 32) = _ := hx.base 32 (by kernel_rfl)
                have HK := Lib.hid hK
                have HC := Lib.hid hC
                have HL := Lib.hid hL
                have HX := Lib.hid hx
                have hc := hx.cst
                skip
                clear hx hK hC hL
                have q1 : ev (.tmp 32) = .pointer (some ⟨gb, 0, none⟩) := e32
                have hld := run_loadVar_row (P := Try.prog) w' gb 28 28 (sqC (concS (mvS t y)) vF) (0, 0) _ (HC.out.keep HXB.out NB1.out NB2.out) Try.underlying28 rfl (by kernel_rfl)
                unfold Run
                rw [rely_load 28 _ rfl q1 hld]
                exact HK.out _ _ (.inl ⟨Below.refl _ _, by decide⟩) rfl
              · intro L ev w' hC hL hx K hK
                have e7 : ev (.tmp 7) = _ := hx.base 7 (by kernel_rfl)
                have e216 := hx.held 0 _ rfl (by kernel_rfl)
                change ev (.tmp 216) = _ at e216
                have HK := Lib.hid hK
                have HC := Lib.hid hC
                have HL := Lib.hid hL
                have HX := Lib.hid hx
                have hc := hx.cst
                skip
                clear hx hK hC hL
                have qv : ev (.tmp 216) = .agg (sqC (concS y) vE) := e216
                have nst : L 2 = false := HL.out
                have qp : ev (.tmp 7) = .pointer (some ⟨g1, 0, none⟩) := e7
                have hgh := HC.out.old1 nst
                have hnv := HC.out.store1 nst rfl N12.out (by decide)
                have hst := run_storeVar_row (P := Try.prog) w' g1 28 28 (sqC (concS x) vD) (sqC (concS y) vE) hgh (by kernel_rfl) rfl H1.out
                unfold Run
                rw [rely_store 28 _ _ rfl qp qv hst]
                refine HK.out _ _ (.inr ⟨hnv, fun j hj hlj u hr => ?_⟩) trivial
                rcases j with _ | _ | _ | _ | j
                · exact hr
                · exact hr
                · exact absurd rfl hj
                · exact trivial
                · exact trivial
              · intro L ev w' hC hL hx K hK
                have e8 : ev (.tmp 8) = _ := hx.base 8 (by kernel_rfl)
                have e217 := hx.held 1 _ rfl (by kernel_rfl)
                change ev (.tmp 217) = _ at e217
                have HK := Lib.hid hK
                have HC := Lib.hid hC
                have HL := Lib.hid hL
                have HX := Lib.hid hx
                have hc := hx.cst
                skip
                clear hx hK hC hL
                have qv : ev (.tmp 217) = .agg (sqC (concS (mvS t y)) vF) := e217
                have nst : L 3 = false := HL.out
                have qp : ev (.tmp 8) = .pointer (some ⟨g2, 0, none⟩) := e8
                have hgh := HC.out.old2 nst
                have hnv := HC.out.store2 nst rfl N12.out (by decide)
                have hst := run_storeVar_row (P := Try.prog) w' g2 28 28 (sqC (concS (mvS t x)) vB) (sqC (concS (mvS t y)) vF) hgh (by kernel_rfl) rfl H2.out
                unfold Run
                rw [rely_store 28 _ _ rfl qp qv hst]
                refine HK.out _ _ (.inr ⟨hnv, fun j hj hlj u hr => ?_⟩) trivial
                rcases j with _ | _ | _ | _ | j
                · exact hr
                · exact hr
                · exact trivial
                · exact absurd rfl hj
                · exact trivial
            · exact rl_mono ⟨is_mono _, is_mono _, any_mono, any_mono, trivial⟩
            · exact fun L L' w' h1 hg => hg.agree (h1 2 (by simp)) (h1 3 (by simp))
            · exact fun L w' w'' hb hg => hg.below hb
            · exact OldT.start HX1.out HX2.out
            · simp
            intro us wr hG hH
            obtain ⟨-, -, -, -, -⟩ := hH
            simp only [fillM]
            obtain ⟨hG9, hvn1, hvn2⟩ := hG
            have HVN1 : Hid (wr.heap[g1]? = some (.cells (sqC (concS y) vE) 28 (0, 0))) := hvn1
            have HVN2 : Hid (wr.heap[g2]? = some (.cells (sqC (concS (mvS t y)) vF) 28 (0, 0))) := hvn2
            have HG9 := Lib.hid hG9
            clear hG9 hvn1 hvn2
            generalize us 216 = v216
            generalize us 217 = v217
            have F8 := Lib.hid (F7.out.put2 (i := 4) (j := 3) rfl rfl (by decide) HG9.out HVN1.out HVN2.out)
            clear F7 HG9 HVN1 HVN2 HXA HXB HX1 HX2 N12 NA1 NA2 NB1 NB2
            rename World => wq
            have HFZ : Hid (Frm w wq [(go, #[.int .i64 kd, .slice B k eb, .int .i64 nn, .int .i64 sz], 33), (g2, (sqC (concS (mvS t y)) vF), 28), (g1, (sqC (concS y) vE), 28)] [((sqC (concS (mvS t y)) vF).toList, sqD (concS (mvS t y))), ((sqC (concS y) vE).toList, sqD (concS y))]) := Lib.hid (F8.out.drop 2 rfl (fun p hp => by simp only [List.mem_cons, List.not_mem_nil, or_false] at hp ⊢; rcases hp with rfl | rfl <;> simp))
            clear F8
            go_wp2
            go_meet
            case rel => exact ⟨y, vE, vF, HOY, HFY, HYL, HFZ⟩
        · as_aux_lemma =>
            have HCA := Lib.hid (fun w' S (hr : Rvs w' S (sqC (concS x) vD).toList (sqD (concS x))) => close18_any x (sqC (concS x) vD) S w' hr HOX.out)
            have HCB : Hid (∀ w' S (hr : Rvs w' S (sqC (concS (mvS t x)) vB).toList (sqD (concS (mvS t x)))), Calls Try.prog 24 #[.agg (sqC (concS (mvS t x)) vB)] w' fun e w'' => ∃ cs' : Array Value, e = .returned (.agg cs') ∧ Rvs w'' (fun b => S b ∨ w'.heap.size ≤ b) cs'.toList (sqD (concS (mvS t (closeS x)))) ∧ Below w'.heap.size w' w'') := fun w' S hr => close18_any (mvS t x) (sqC (concS (mvS t x)) vB) S w' hr HOM.out
            have HOY := Lib.hid (close_okS HOX.out)
            have HFY : Hid ((closeS x).first = na) := HFN.out
            have HYL : Hid ((closeS x).all.length ≤ 400 * (i + 1)) := by show x.all.length ≤ _; omega
            obtain ⟨y, hy⟩ : ∃ y, closeS x = y := ⟨_, rfl⟩
            rw [hy] at HCA HCB HOY HFY HYL
            clear hy HN HSZ o0 o1 o2 o3
            have HX1 := Lib.hid (F3.out.at (i := 2) rfl)
            have HX2 := Lib.hid (F3.out.at (i := 1) rfl)
            have HR1 : Hid (Rvs w5 (Nv [go, g2, g1]) (sqC (concS x) vD).toList (sqD (concS x))) := F3.out.val (i := 2) rfl
            have HR2 : Hid (Rvs w5 (Nv [go, g2, g1]) (sqC (concS (mvS t x)) vB).toList (sqD (concS (mvS t x)))) := F3.out.val (i := 1) rfl
            have HS1 : Hid (¬ (Nv [go, g2, g1]) g1) := fun h => h (by simp)
            have HS2 : Hid (¬ (Nv [go, g2, g1]) g2) := fun h => h (by simp)
            have HBIG : Hid (∀ b, w5.heap.size ≤ b → (Nv [go, g2, g1]) b) := fun b hb hm => by
              have := F3.out.lt b hm
              omega
            have NE : Hid (g1 ≠ g2) := F3.out.ne (i := 2) (j := 1) rfl rfl (by decide)
            go_upto_region 8 with (fail)
            apply wp_region_relyG [4, 5] (OldD w5 (Nv [go, g2, g1]) 4 g1 28 (sqC (concS x) vD) (sqD (concS y)) 5 g2 28 (sqC (concS (mvS t x)) vB) (sqD (concS (mvS t y)))) (RL [Is (.agg (sqC (concS x) vD)), Rd1 (Nv [go, g2, g1]) (sqD (concS y)), Is (.agg (sqC (concS (mvS t x)) vB)), Rd1 (Nv [go, g2, g1]) (sqD (concS (mvS t y))), Any, Any]) [false, false, false, false, false, false, false, false, false, false, false, false, false, false, false, false, false, false, false, false, false, false, false, false, false, false, false, false, false, false, false, false, false, false, false, false, false, false, false, false, false, false, false, false, false, false, false, false, false, false, false, false, false, false, false, false, false, true, true, true, true, false, false, false, false, false, false, false, false, false, false, false, false, false, false, false, false, false, false, false, false, false, false, false, false, false, false, false, false, false, false, false, false, false, false, false, false, false, false, false, false, false, false, false, false, false, false, false, false, false, false, false, false, false, false, false, false, false, false, false, false, false, false, false, false, false, false, false, false, false, false, false, false, false, false, false, false, false, false, false, false, false, false, false, false, false, false, false, false, false, false, false, false, false, false, false, false, false, false, false, false, false, false, false, false, false, false, false, false, false, false, false, false, false, false, false, false, false, false, false, false, false, false, false, false, false, false, false, false, false, false, false, false, false, false, false, false, false, false, false, false, false, false, false, false, false, false, false, false, false, false, false, false, false, false, false, false, false, false, false, false, false, false, false, false, false, false, false, false, false, false, false, false, false, false, false, false, false, false, false, false, false, false, false, false, false, false, false, false, false, false, false, false, false, false, false, false, false, false, false, false, false, false, false, false, false, false, false, false, false, false, false, false]
            · kernel_rfl
            · kernel_rfl
            · kernel_rfl
            · refine ⟨?_, ?_, ?_, ?_, ?_, ?_, trivial⟩
              · intro L ev w' hC hL hx K hK
                have e7 : ev (.tmp 7) = _ := hx.base 7 (by kernel_rfl)
                have HK := Lib.hid hK
                have HC := Lib.hid hC
                have HL := Lib.hid hL
                have HX := Lib.hid hx
                have hc := hx.cst
                skip
                clear hx hK hC hL
                have nst : L 4 = false := Bool.eq_false_iff.2 fun h => by have h9 := (HX.out.closed 1 _ 0 rfl (HX.out.closed 4 _ 1 rfl h (by kernel_rfl)) (by kernel_rfl)); rw [HL.out] at h9; cases h9
                have q1 : ev (.tmp 7) = .pointer (some ⟨g1, 0, none⟩) := e7
                have hld := run_loadVar_row (P := Try.prog) w' g1 28 28 (sqC (concS x) vD) (0, 0) _ (HC.out.old1 nst) Try.underlying28 rfl (by kernel_rfl)
                unfold Run
                rw [rely_load 28 _ rfl q1 hld]
                exact HK.out _ _ (.inl ⟨Below.refl _ _, by decide⟩) rfl
              · intro L ev w' hC hL hx K hK
                have e57 := hx.held 0 _ rfl (by kernel_rfl)
                change ev (.tmp 57) = _ at e57
                have HK := Lib.hid hK
                have HC := Lib.hid hC
                have HL := Lib.hid hL
                have HX := Lib.hid hx
                have hc := hx.cst
                have hf := hx.fn
                clear hx hK hC hL
                unfold Run
                simp [execOp, Upon, go_sem, *]
                refine (HCA.out w' _ (HC.out.val HR1.out HS1.out HS2.out)).mono ?_
                rintro e w2 ⟨cs', rfl, hr, hb⟩
                refine ⟨_, rfl, HK.out _ _ (.inl ⟨hb, by decide⟩) ⟨cs', rfl, hr.wide fun b hb2 => ?_⟩⟩
                rcases hb2 with hb2 | hb2
                · exact hb2
                · exact HBIG.out b (Nat.le_trans HC.out.1.size hb2)
              · intro L ev w' hC hL hx K hK
                have e8 : ev (.tmp 8) = _ := hx.base 8 (by kernel_rfl)
                have HK := Lib.hid hK
                have HC := Lib.hid hC
                have HL := Lib.hid hL
                have HX := Lib.hid hx
                have hc := hx.cst
                skip
                clear hx hK hC hL
                have nst : L 5 = false := Bool.eq_false_iff.2 fun h => by have h9 := (HX.out.closed 3 _ 2 rfl (HX.out.closed 5 _ 3 rfl h (by kernel_rfl)) (by kernel_rfl)); rw [HL.out] at h9; cases h9
                have q1 : ev (.tmp 8) = .pointer (some ⟨g2, 0, none⟩) := e8
                have hld := run_loadVar_row (P := Try.prog) w' g2 28 28 (sqC (concS (mvS t x)) vB) (0, 0) _ (HC.out.old2 nst) Try.underlying28 rfl (by kernel_rfl)
                unfold Run
                rw [rely_load 28 _ rfl q1 hld]
                exact HK.out _ _ (.inl ⟨Below.refl _ _, by decide⟩) rfl
              · intro L ev w' hC hL hx K hK
                have e59 := hx.held 2 _ rfl (by kernel_rfl)
                change ev (.tmp 59) = _ at e59
                have HK := Lib.hid hK
                have HC := Lib.hid hC
                have HL := Lib.hid hL
                have HX := Lib.hid hx
                have hc := hx.cst
                have hf := hx.fn
                clear hx hK hC hL
                unfold Run
                simp [execOp, Upon, go_sem, *]
                refine (HCB.out w' _ (HC.out.val HR2.out HS1.out HS2.out)).mono ?_
                rintro e w2 ⟨cs', rfl, hr, hb⟩
                refine ⟨_, rfl, HK.out _ _ (.inl ⟨hb, by decide⟩) ⟨cs', rfl, hr.wide fun b hb2 => ?_⟩⟩
                rcases hb2 with hb2 | hb2
                · exact hb2
                · exact HBIG.out b (Nat.le_trans HC.out.1.size hb2)
              · intro L ev w' hC hL hx K hK
                have e7 : ev (.tmp 7) = _ := hx.base 7 (by kernel_rfl)
                have e58 := hx.held 1 _ rfl (by kernel_rfl)
                change (Rd1 (Nv [go, g2, g1]) (sqD (concS y)) : Pred) (ev (.tmp 58)) w' at e58
                have HK := Lib.hid hK
                have HC := Lib.hid hC
                have HL := Lib.hid hL
                have HX := Lib.hid hx
                have hc := hx.cst
                skip
                clear hx hK hC hL
                obtain ⟨C, hC, hr⟩ := e58
                have qp : ev (.tmp 7) = .pointer (some ⟨g1, 0, none⟩) := e7
                have nst : L 4 = false := HL.out
                have hgh := HC.out.old1 nst
                have hsz : C.size = 6 := hr.1
                have hst := run_storeVar_row (P := Try.prog) w' g1 28 28 (sqC (concS x) vD) C hgh (by rw [hsz]; kernel_rfl) (by rw [hsz]; rfl) (Array.all_eq_true_iff_forall_mem.2 fun u hu => hr.ones u (by simpa using hu))
                unfold Run
                rw [rely_store 28 _ _ rfl qp hC hst]
                refine HK.out _ _ (.inr ⟨HC.out.store1 nst (by rw [hsz]; rfl) hr HS1.out NE.out (by decide), fun j hj hlj u hr => ?_⟩) trivial
                rcases j with _ | _ | _ | _ | _ | _ | j
                · exact hr
                · exact rd1_set hr HS1.out _
                · exact hr
                · exact rd1_set hr HS1.out _
                · exact absurd rfl hj
                · exact trivial
                · exact trivial
              · intro L ev w' hC hL hx K hK
                have e8 : ev (.tmp 8) = _ := hx.base 8 (by kernel_rfl)
                have e60 := hx.held 3 _ rfl (by kernel_rfl)
                change (Rd1 (Nv [go, g2, g1]) (sqD (concS (mvS t y))) : Pred) (ev (.tmp 60)) w' at e60
                have HK := Lib.hid hK
                have HC := Lib.hid hC
                have HL := Lib.hid hL
                have HX := Lib.hid hx
                have hc := hx.cst
                skip
                clear hx hK hC hL
                obtain ⟨C, hC, hr⟩ := e60
                have qp : ev (.tmp 8) = .pointer (some ⟨g2, 0, none⟩) := e8
                have nst : L 5 = false := HL.out
                have hgh := HC.out.old2 nst
                have hsz : C.size = 6 := hr.1
                have hst := run_storeVar_row (P := Try.prog) w' g2 28 28 (sqC (concS (mvS t x)) vB) C hgh (by rw [hsz]; kernel_rfl) (by rw [hsz]; rfl) (Array.all_eq_true_iff_forall_mem.2 fun u hu => hr.ones u (by simpa using hu))
                unfold Run
                rw [rely_store 28 _ _ rfl qp hC hst]
                refine HK.out _ _ (.inr ⟨HC.out.store2 nst (by rw [hsz]; rfl) hr HS2.out NE.out (by decide), fun j hj hlj u hr => ?_⟩) trivial
                rcases j with _ | _ | _ | _ | _ | _ | j
                · exact hr
                · exact rd1_set hr HS2.out _
                · exact hr
                · exact rd1_set hr HS2.out _
                · exact trivial
                · exact absurd rfl hj
                · exact trivial
            · exact rl_mono ⟨is_mono _, rd1_mono _ _, is_mono _, rd1_mono _ _, any_mono, any_mono, trivial⟩
            · exact fun L L' w' h1 hg => hg.agree (h1 4 (by simp)) (h1 5 (by simp))
            · exact fun L w' w'' hb hg => hg.below hb
            · exact OldD.start HX1.out HX2.out
            · simp
            intro us wr hG hH
            obtain ⟨-, -, -, -, -, -, -⟩ := hH
            simp only [fillM]
            obtain ⟨hG9, ⟨C1, hvn1, hrn1⟩, C2, hvn2, hrn2⟩ := OldD.done hG
            have HVN1 := Lib.hid hvn1
            have HVN2 := Lib.hid hvn2
            have HRN1 := Lib.hid hrn1
            have HRN2 := Lib.hid hrn2
            have HG9 := Lib.hid hG9
            clear hG hG9 hvn1 hvn2 hrn1 hrn2
            generalize us 57 = v57
            generalize us 58 = v58
            generalize us 59 = v59
            generalize us 60 = v60
            rename World => wq
            have F8 := Lib.hid (((F3.out.put2 (i := 2) (j := 1) rfl rfl (by decide) HG9.out HVN1.out HVN2.out).add (us := C1.toList) (ds := sqD (concS y)) HRN1.out).add (us := C2.toList) (ds := sqD (concS (mvS t y))) HRN2.out)
            obtain ⟨vE, rfl, -, h1⟩ := sq_of HRN1.out
            obtain ⟨vF, rfl, -, h2⟩ := sq_of HRN2.out
            clear F3 HG9 HVN1 HVN2 HX1 HX2 HR1 HR2 HS1 HS2 HBIG NE HRN1 HRN2 h1 h2
            have HFZ : Hid (Frm w wq [(go, #[.int .i64 kd, .slice B k eb, .int .i64 nn, .int .i64 sz], 33), (g2, (sqC (concS (mvS t y)) vF), 28), (g1, (sqC (concS y) vE), 28)] [((sqC (concS (mvS t y)) vF).toList, sqD (concS (mvS t y))), ((sqC (concS y) vE).toList, sqD (concS y))]) := Lib.hid (F8.out.drop 0 rfl (fun p hp => by simp only [List.mem_cons, List.not_mem_nil, or_false] at hp ⊢; rcases hp with rfl | rfl <;> simp))
            clear F8
            go_wp2
            go_meet
            case rel => exact ⟨y, vE, vF, HOY, HFY, HYL, HFZ⟩
      case rest =>
        obtain ⟨y, vE, vF, HOY, HFY, HYL, F4⟩ := hcut
        clear o0 o1 o2 o3
        have hyl := HYL.out
        have hrm := HOY.out.room
        obtain ⟨AE, cE, eE, hrE⟩ : ∃ A9 c9, vE = .slice A9 (concS y).data.length c9 ∧ Rv wc (fun _ => True) vE (bytesD (concS y).data) := by
          obtain ⟨v1, e, hr1, -⟩ := sq_of (F4.out.val (i := 1) rfl)
          have e2 : v1 = vE := by
            injection e with e
            injection e with _ e
            injection e with e _
            exact e.symm
          subst e2
          obtain ⟨A1, c1, e3, -⟩ := rv_bytes.1 hr1
          exact ⟨A1, c1, e3, hr1.wide fun _ _ => trivial⟩
        obtain ⟨AF, cF, eF, hrF⟩ : ∃ A9 c9, vF = .slice A9 (concS (mvS t y)).data.length c9 ∧ Rv wc (fun _ => True) vF (bytesD (concS (mvS t y)).data) := by
          obtain ⟨v1, e, hr1, -⟩ := sq_of (F4.out.val (i := 0) rfl)
          have e2 : v1 = vF := by
            injection e with e
            injection e with _ e
            injection e with e _
            exact e.symm
          subst e2
          obtain ⟨A1, c1, e3, -⟩ := rv_bytes.1 hr1
          exact ⟨A1, c1, e3, hr1.wide fun _ _ => trivial⟩
        have hdl : (concS (mvS t y)).data = (concS y).data := rfl
        rw [hdl] at eF hrF
        have HV1 : Hid (∀ w9, Reg wc w9 → (convert 26 9 vE).run Try.prog w9 = .ok (.string ⟨(concS y).data.toArray⟩) w9) := fun w9 hr => byt_text hrE w9 (reg_below hr)
        have HV2 : Hid (∀ w9, Reg wc w9 → (convert 26 9 vF).run Try.prog w9 = .ok (.string ⟨(concS y).data.toArray⟩) w9) := fun w9 hr => byt_text hrF w9 (reg_below hr)
        have hnE : (concS y).data.length = y.all.length - fromS y := by show (y.all.drop (fromS y)).length = _; rw [List.length_drop]
        obtain ⟨nE, hnn⟩ : ∃ nE, (concS y).data.length = nE := ⟨_, rfl⟩
        rw [hnn] at eE eF hnE
        obtain ⟨tb, htb⟩ : ∃ tb, (⟨(concS y).data.toArray⟩ : ByteArray) = tb := ⟨_, rfl⟩
        rw [htb] at HV1 HV2
        subst eE eF
        clear hrE hrF hdl hnn htb
        have HX1 := Lib.hid (F4.out.at (i := 2) rfl)
        have HX2 := Lib.hid (F4.out.at (i := 1) rfl)
        have HRO := Lib.hid (fun w9 (hb : Below wc.heap.size wc w9) => room18_any y _ _ w9 (rvs_call (F4.out.val (i := 1) rfl) hb) HOY.out)
        have HFL := Lib.hid (fun w9 (hb : Below wc.heap.size wc w9) => flight18_any y _ _ w9 (rvs_call (F4.out.val (i := 1) rfl) hb) HOY.out)
        have HFM : Hid (∀ w9, Below wc.heap.size wc w9 → Calls Try.prog 16 #[.agg (sqC (concS (mvS t y)) (.slice AF nE cF))] w9 fun e w' => e = .returned (.int .i64 (flightS y : Int)) ∧ Below w9.heap.size w9 w') := fun w9 hb => flight18_any (mvS t y) _ _ w9 (rvs_call (F4.out.val (i := 0) rfl) hb) (mv_okS HOY.out t)
        have C10 : Hid (∀ w9, Reg wc w9 → w9.cell? (⟨g1, 0, none⟩ : Addr) = some (.int .u32 (addS y.first y.acked))) := Lib.hid (var_cell HX1.out 0 rfl)
        have C20 : Hid (∀ w9, Reg wc w9 → w9.cell? (⟨g2, 0, none⟩ : Addr) = some (.int .u32 (addS (addS y.first t) y.acked))) := Lib.hid (var_cell HX2.out 0 rfl)
        have C11 : Hid (∀ w9, Reg wc w9 → w9.cell? ((⟨g1, 0, none⟩ : Addr).add 1) = some (.slice AE nE cE)) := Lib.hid (var_cell HX1.out 1 rfl)
        have C21 : Hid (∀ w9, Reg wc w9 → w9.cell? ((⟨g2, 0, none⟩ : Addr).add 1) = some (.slice AF nE cF)) := Lib.hid (var_cell HX2.out 1 rfl)
        have C12 : Hid (∀ w9, Reg wc w9 → w9.cell? ((⟨g1, 0, none⟩ : Addr).add 2) = some (.int .i64 ((y.sent - fromS y : Nat) : Int))) := Lib.hid (var_cell HX1.out 2 rfl)
        have C22 : Hid (∀ w9, Reg wc w9 → w9.cell? ((⟨g2, 0, none⟩ : Addr).add 2) = some (.int .i64 ((y.sent - fromS y : Nat) : Int))) := Lib.hid (var_cell HX2.out 2 rfl)
        have C13 : Hid (∀ w9, Reg wc w9 → w9.cell? ((⟨g1, 0, none⟩ : Addr).add 3) = some (.bool y.fin)) := Lib.hid (var_cell HX1.out 3 rfl)
        have HUU : Hid ((addS y.first y.acked - na) % 4294967296 = (addS (addS y.first t) y.acked - nb) % 4294967296) := by
          have h1 : y.first = na := HFY.out
          have h2 : addS na t = nb := HT.out
          show _ = _
          rw [h1, h2]
          unfold addS
          omega
        have HRF : Hid (y.fin = false → roomS y + nE = 256) := fun hf => by
          unfold roomS
          rw [hf, if_neg (by decide)]
          omega
        generalize ((y.sent - fromS y : Nat) : Int) = z2 at C12 C22
        generalize addS y.first y.acked = u1 at C10 HUU
        generalize addS (addS y.first t) y.acked = u2 at C20 HUU
        generalize flightS y = fl at HFL HFM
        generalize roomS y = rm at HRO HRF
        obtain ⟨fi, hfi⟩ : ∃ fi, y.fin = fi := ⟨_, rfl⟩
        rw [hfi] at C13 HRF
        have huu := HUU.out
        have hbe : (tb.toList == tb.toList) = true := beq_self_eq_true _
        clear hfi hnE hrm HUU hyl
        cases fi
        · have hrf : (rm : Int) + (nE : Int) = 256 := by have := HRF.out rfl; omega
          go_upto_region 34 with (fail)
          refine wp_region_quiet_below (by kernel_rfl) (by kernel_rfl) ?_
          (first | go_big_quiet_step (fail) | quiet_step (fail))
          (refine wpQuiet_step (fun K hK => ?_); refine quiet_load_cell (by kernel_rfl) 22 _ rfl (⟨g1, 0, none⟩ : Addr) (by first | rfl | (simp [Act.eval, Addr.add_mid])) (.int .u32 u1) _ C10.out Try.underlying22 rfl ?_; refine hK _ ?_; clear hK K; go_frame)
          (first | go_big_quiet_step (fail) | quiet_step (fail))
          (first | go_big_quiet_step (fail) | quiet_step (fail))
          (first | go_big_quiet_step (fail) | quiet_step (fail))
          (refine wpQuiet_step (fun K hK => ?_); refine quiet_load_cell (by kernel_rfl) 22 _ rfl (⟨g2, 0, none⟩ : Addr) (by first | rfl | (simp [Act.eval, Addr.add_mid])) (.int .u32 u2) _ C20.out Try.underlying22 rfl ?_; refine hK _ ?_; clear hK K; go_frame)
          (first | go_big_quiet_step (fail) | quiet_step (fail))
          (first | go_big_quiet_step (fail) | quiet_step (fail))
          (first | go_big_quiet_step (fail) | quiet_step (fail))
          (first | go_big_quiet_step (fail) | quiet_step (fail))
          (first | go_big_quiet_step (fail) | quiet_step (fail))
          (refine wpQuiet_step (fun K hK => ?_); refine quiet_load_cell (by kernel_rfl) 3 _ rfl ((⟨g1, 0, none⟩ : Addr).add 2) (by first | rfl | (simp [Act.eval, Addr.add_mid])) (.int .i64 z2) _ C12.out Try.underlying3 rfl ?_; refine hK _ ?_; clear hK K; go_frame)
          (first | go_big_quiet_step (fail) | quiet_step (fail))
          (refine wpQuiet_step (fun K hK => ?_); refine quiet_load_cell (by kernel_rfl) 3 _ rfl ((⟨g2, 0, none⟩ : Addr).add 2) (by first | rfl | (simp [Act.eval, Addr.add_mid])) (.int .i64 z2) _ C22.out Try.underlying3 rfl ?_; refine hK _ ?_; clear hK K; go_frame)
          (first | go_big_quiet_step (fail) | quiet_step (fail))
          (first | go_big_quiet_step (fail) | quiet_step (fail))
          (first | go_big_quiet_step (fail) | quiet_step (fail))
          (first | go_big_quiet_step (fail) | quiet_step (fail))
          (refine wpQuiet_step (fun K hK => ?_); refine quiet_load_cell (by kernel_rfl) 26 _ rfl ((⟨g1, 0, none⟩ : Addr).add 1) (by first | rfl | (simp [Act.eval, Addr.add_mid])) (.slice AE nE cE) _ C11.out Try.underlying26 rfl ?_; refine hK _ ?_; clear hK K; go_frame)
          (refine wpQuiet_step (fun K hK => ?_); refine quiet_conv (by kernel_rfl) 26 9 _ rfl (.slice AE nE cE) (.string tb) rfl HV1.out ?_; refine hK _ ?_; clear hK K; go_frame)
          (first | go_big_quiet_step (fail) | quiet_step (fail))
          (refine wpQuiet_step (fun K hK => ?_); refine quiet_load_cell (by kernel_rfl) 26 _ rfl ((⟨g2, 0, none⟩ : Addr).add 1) (by first | rfl | (simp [Act.eval, Addr.add_mid])) (.slice AF nE cF) _ C21.out Try.underlying26 rfl ?_; refine hK _ ?_; clear hK K; go_frame)
          (refine wpQuiet_step (fun K hK => ?_); refine quiet_conv (by kernel_rfl) 26 9 _ rfl (.slice AF nE cF) (.string tb) rfl HV2.out ?_; refine hK _ ?_; clear hK K; go_frame)
          (first | go_big_quiet_step (fail) | quiet_step (fail))
          (first | go_big_quiet_step (fail) | quiet_step (fail))
          (first | go_big_quiet_step (fail) | quiet_step (fail))
          (first | go_big_quiet_step (fail) | quiet_step (fail))
          (refine wpQuiet_step (fun K hK => ?_); refine quiet_load_cell (by kernel_rfl) 4 _ rfl ((⟨g1, 0, none⟩ : Addr).add 3) (by first | rfl | (simp [Act.eval, Addr.add_mid])) (.bool false) _ C13.out Try.underlying4 rfl ?_; refine hK _ ?_; clear hK K; go_frame)
          (first | go_big_quiet_step (fail) | quiet_step (fail))
          (first | go_big_quiet_step (fail) | quiet_step (fail))
          (refine wpQuiet_step (fun K hK => ?_); refine quiet_load_at (by kernel_rfl) 28 _ rfl (⟨g1, 0, none⟩ : Addr) (by first | rfl | (simp [Act.eval, Addr.add_mid])) (sqC (concS y) (.slice AE nE cE)) _ (fun w9 hr9 => var_all HX1.out w9 (reg_below hr9)) Try.underlying28 rfl (by kernel_rfl) ?_; refine hK _ ?_; clear hK K; go_frame)
          quiet_step (first | (go_at_call 14; exact Calls.regrown_of (HRO.out _ (below_regrown _ _ _))))
          (first | go_big_quiet_step (fail) | quiet_step (fail))
          (refine wpQuiet_step (fun K hK => ?_); refine quiet_load_cell (by kernel_rfl) 26 _ rfl ((⟨g1, 0, none⟩ : Addr).add 1) (by first | rfl | (simp [Act.eval, Addr.add_mid])) (.slice AE nE cE) _ C11.out Try.underlying26 rfl ?_; refine hK _ ?_; clear hK K; go_frame)
          (first | go_big_quiet_step (fail) | quiet_step (fail))
          (first | go_big_quiet_step (fail) | quiet_step (fail))
          (first | go_big_quiet_step (fail) | quiet_step (fail))
          (first | go_big_quiet_step (fail) | quiet_step (fail))
          (first | go_big_quiet_step (fail) | quiet_step (fail))
          (first | go_big_quiet_step (fail) | quiet_step (fail))
          (refine wpQuiet_step (fun K hK => ?_); refine quiet_load_at (by kernel_rfl) 28 _ rfl (⟨g1, 0, none⟩ : Addr) (by first | rfl | (simp [Act.eval, Addr.add_mid])) (sqC (concS y) (.slice AE nE cE)) _ (fun w9 hr9 => var_all HX1.out w9 (reg_below hr9)) Try.underlying28 rfl (by kernel_rfl) ?_; refine hK _ ?_; clear hK K; go_frame)
          quiet_step (first | (go_at_call 16; exact Calls.regrown_of (HFL.out _ (below_regrown _ _ _))))
          (refine wpQuiet_step (fun K hK => ?_); refine quiet_load_at (by kernel_rfl) 28 _ rfl (⟨g2, 0, none⟩ : Addr) (by first | rfl | (simp [Act.eval, Addr.add_mid])) (sqC (concS (mvS t y)) (.slice AF nE cF)) _ (fun w9 hr9 => var_all HX2.out w9 (reg_below hr9)) Try.underlying28 rfl (by kernel_rfl) ?_; refine hK _ ?_; clear hK K; go_frame)
          quiet_step (first | (go_at_call 16; exact Calls.regrown_of (HFM.out _ (below_regrown _ _ _))))
          (first | go_big_quiet_step (fail) | quiet_step (fail))
          (first | go_big_quiet_step (fail) | quiet_step (fail))
          refine wpQuiet_nil ?_
          intro w9 hw9
          obtain ⟨⟨dq, osq⟩, rfl⟩ := hw9
          have HB9 := Lib.hid ((Below.refl wc.heap.size wc).trans ((below_regrown wc dq osq).mono (Below.refl wc.heap.size wc).size))
          generalize Sort.grow (redrawn wc dq) osq = w9z at *
          have F9 := Lib.hid (F4.out.call HB9.out)
          have FB : Hid (Frm w w9z [(g2, (sqC (concS (mvS t y)) (.slice AF nE cF)), 28), (g1, (sqC (concS y) (.slice AE nE cE)), 28)] [((sqC (concS (mvS t y)) (.slice AF nE cF)).toList, sqD (concS (mvS t y))), ((sqC (concS y) (.slice AE nE cE)).toList, sqD (concS y))]) := Lib.hid (F9.out.drop 1 rfl (fun _ h => h))
          clear F4 F9 HB9 HRO HFL HFM C10 C20 C11 C21 C12 C22 C13 HV1 HV2 HX1 HX2 HRF
          go_wp2
          go_roundw
          case rel => exact ⟨i + 1, y, _, _, by omega, by go_num, HOY, HFY, HYL, FB⟩
          case measure => simp [intOf]; omega
        · go_upto_region 34 with (fail)
          refine wp_region_quiet_below (by kernel_rfl) (by kernel_rfl) ?_
          (first | go_big_quiet_step (fail) | quiet_step (fail))
          (refine wpQuiet_step (fun K hK => ?_); refine quiet_load_cell (by kernel_rfl) 22 _ rfl (⟨g1, 0, none⟩ : Addr) (by first | rfl | (simp [Act.eval, Addr.add_mid])) (.int .u32 u1) _ C10.out Try.underlying22 rfl ?_; refine hK _ ?_; clear hK K; go_frame)
          (first | go_big_quiet_step (fail) | quiet_step (fail))
          (first | go_big_quiet_step (fail) | quiet_step (fail))
          (first | go_big_quiet_step (fail) | quiet_step (fail))
          (refine wpQuiet_step (fun K hK => ?_); refine quiet_load_cell (by kernel_rfl) 22 _ rfl (⟨g2, 0, none⟩ : Addr) (by first | rfl | (simp [Act.eval, Addr.add_mid])) (.int .u32 u2) _ C20.out Try.underlying22 rfl ?_; refine hK _ ?_; clear hK K; go_frame)
          (first | go_big_quiet_step (fail) | quiet_step (fail))
          (first | go_big_quiet_step (fail) | quiet_step (fail))
          (first | go_big_quiet_step (fail) | quiet_step (fail))
          (first | go_big_quiet_step (fail) | quiet_step (fail))
          (first | go_big_quiet_step (fail) | quiet_step (fail))
          (refine wpQuiet_step (fun K hK => ?_); refine quiet_load_cell (by kernel_rfl) 3 _ rfl ((⟨g1, 0, none⟩ : Addr).add 2) (by first | rfl | (simp [Act.eval, Addr.add_mid])) (.int .i64 z2) _ C12.out Try.underlying3 rfl ?_; refine hK _ ?_; clear hK K; go_frame)
          (first | go_big_quiet_step (fail) | quiet_step (fail))
          (refine wpQuiet_step (fun K hK => ?_); refine quiet_load_cell (by kernel_rfl) 3 _ rfl ((⟨g2, 0, none⟩ : Addr).add 2) (by first | rfl | (simp [Act.eval, Addr.add_mid])) (.int .i64 z2) _ C22.out Try.underlying3 rfl ?_; refine hK _ ?_; clear hK K; go_frame)
          (first | go_big_quiet_step (fail) | quiet_step (fail))
          (first | go_big_quiet_step (fail) | quiet_step (fail))
          (first | go_big_quiet_step (fail) | quiet_step (fail))
          (first | go_big_quiet_step (fail) | quiet_step (fail))
          (refine wpQuiet_step (fun K hK => ?_); refine quiet_load_cell (by kernel_rfl) 26 _ rfl ((⟨g1, 0, none⟩ : Addr).add 1) (by first | rfl | (simp [Act.eval, Addr.add_mid])) (.slice AE nE cE) _ C11.out Try.underlying26 rfl ?_; refine hK _ ?_; clear hK K; go_frame)
          (refine wpQuiet_step (fun K hK => ?_); refine quiet_conv (by kernel_rfl) 26 9 _ rfl (.slice AE nE cE) (.string tb) rfl HV1.out ?_; refine hK _ ?_; clear hK K; go_frame)
          (first | go_big_quiet_step (fail) | quiet_step (fail))
          (refine wpQuiet_step (fun K hK => ?_); refine quiet_load_cell (by kernel_rfl) 26 _ rfl ((⟨g2, 0, none⟩ : Addr).add 1) (by first | rfl | (simp [Act.eval, Addr.add_mid])) (.slice AF nE cF) _ C21.out Try.underlying26 rfl ?_; refine hK _ ?_; clear hK K; go_frame)
          (refine wpQuiet_step (fun K hK => ?_); refine quiet_conv (by kernel_rfl) 26 9 _ rfl (.slice AF nE cF) (.string tb) rfl HV2.out ?_; refine hK _ ?_; clear hK K; go_frame)
          (first | go_big_quiet_step (fail) | quiet_step (fail))
          (first | go_big_quiet_step (fail) | quiet_step (fail))
          (first | go_big_quiet_step (fail) | quiet_step (fail))
          (first | go_big_quiet_step (fail) | quiet_step (fail))
          (refine wpQuiet_step (fun K hK => ?_); refine quiet_load_cell (by kernel_rfl) 4 _ rfl ((⟨g1, 0, none⟩ : Addr).add 3) (by first | rfl | (simp [Act.eval, Addr.add_mid])) (.bool true) _ C13.out Try.underlying4 rfl ?_; refine hK _ ?_; clear hK K; go_frame)
          (first | go_big_quiet_step (fail) | quiet_step (fail))
          (first | go_big_quiet_step (fail) | quiet_step (fail))
          (first | go_big_quiet_step (fail) | quiet_step (fail))
          (first | go_big_quiet_step (fail) | quiet_step (fail))
          (first | go_big_quiet_step (fail) | quiet_step (fail))
          (first | go_big_quiet_step (fail) | quiet_step (fail))
          (first | go_big_quiet_step (fail) | quiet_step (fail))
          (first | go_big_quiet_step (fail) | quiet_step (fail))
          (first | go_big_quiet_step (fail) | quiet_step (fail))
          (first | go_big_quiet_step (fail) | quiet_step (fail))
          (first | go_big_quiet_step (fail) | quiet_step (fail))
          (first | go_big_quiet_step (fail) | quiet_step (fail))
          (refine wpQuiet_step (fun K hK => ?_); refine quiet_load_at (by kernel_rfl) 28 _ rfl (⟨g1, 0, none⟩ : Addr) (by first | rfl | (simp [Act.eval, Addr.add_mid])) (sqC (concS y) (.slice AE nE cE)) _ (fun w9 hr9 => var_all HX1.out w9 (reg_below hr9)) Try.underlying28 rfl (by kernel_rfl) ?_; refine hK _ ?_; clear hK K; go_frame)
          quiet_step (first | (go_at_call 16; exact Calls.regrown_of (HFL.out _ (below_regrown _ _ _))))
          (refine wpQuiet_step (fun K hK => ?_); refine quiet_load_at (by kernel_rfl) 28 _ rfl (⟨g2, 0, none⟩ : Addr) (by first | rfl | (simp [Act.eval, Addr.add_mid])) (sqC (concS (mvS t y)) (.slice AF nE cF)) _ (fun w9 hr9 => var_all HX2.out w9 (reg_below hr9)) Try.underlying28 rfl (by kernel_rfl) ?_; refine hK _ ?_; clear hK K; go_frame)
          quiet_step (first | (go_at_call 16; exact Calls.regrown_of (HFM.out _ (below_regrown _ _ _))))
          (first | go_big_quiet_step (fail) | quiet_step (fail))
          (first | go_big_quiet_step (fail) | quiet_step (fail))
          refine wpQuiet_nil ?_
          intro w9 hw9
          obtain ⟨⟨dq, osq⟩, rfl⟩ := hw9
          have HB9 := Lib.hid ((Below.refl wc.heap.size wc).trans ((below_regrown wc dq osq).mono (Below.refl wc.heap.size wc).size))
          generalize Sort.grow (redrawn wc dq) osq = w9z at *
          have F9 := Lib.hid (F4.out.call HB9.out)
          have FB : Hid (Frm w w9z [(g2, (sqC (concS (mvS t y)) (.slice AF nE cF)), 28), (g1, (sqC (concS y) (.slice AE nE cE)), 28)] [((sqC (concS (mvS t y)) (.slice AF nE cF)).toList, sqD (concS (mvS t y))), ((sqC (concS y) (.slice AE nE cE)).toList, sqD (concS y))]) := Lib.hid (F9.out.drop 1 rfl (fun _ h => h))
          clear F4 F9 HB9 HRO HFL HFM C10 C20 C11 C21 C12 C22 C13 HV1 HV2 HX1 HX2 HRF
          go_wp2
          go_roundw
          case rel => exact ⟨i + 1, y, _, _, by omega, by go_num, HOY, HFY, HYL, FB⟩
          case measure => simp [intOf]; omega
    · obtain rfl : i = m := by omega
      have HBE := Lib.hid F1.out.below
      go_wp2
      go_ret
      exact ⟨rfl, HBE.out⟩
end Go.Proofs.Ytebflcpoecolbaa
