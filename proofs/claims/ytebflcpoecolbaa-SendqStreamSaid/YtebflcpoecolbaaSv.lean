/-
  lives of layer 18. No condition.
-/
import Derived.Test.YtebflcpoecolbaaSec
import Derived.Test.YtebflcpoecolbaaSo
import Derived.Lib.SlBytesConst
namespace Go.Proofs.Ytebflcpoecolbaa
open Go.RowKit

theorem pc_of {w : World} {S : Nat → Prop} {ps : Array Value} {a : Int} {l : List UInt8} (h : Rvs w S ps.toList (spcD a l)) : ∃ v, ps = #[.int .u32 a, v] ∧ Rv w S v (bytesD l) ∧ (#[.int .u32 a, v] : Array Value).all (·.oneCell') = true := by
  obtain ⟨v0, v1, hcs⟩ : ∃ v0 v1, ps.toList = [v0, v1] := by
    have := h.1
    rcases hc : ps.toList with _ | ⟨v0, _ | ⟨v1, _ | ⟨v2, l⟩⟩⟩ <;> rw [hc] at this <;> simp [spcD] at this
    exact ⟨_, _, rfl⟩
  have he : ps = #[v0, v1] := by rw [← Array.toArray_toList (xs := ps), hcs]
  have h1 := h.ones
  rw [hcs] at h
  unfold spcD at h
  simp only [rvs_cons, rv_val] at h
  obtain ⟨⟨rfl, _⟩, hD, _⟩ := h
  refine ⟨v1, he, hD, ?_⟩
  rw [← he]
  exact Array.all_eq_true_iff_forall_mem.2 fun u hu => h1 u (by simpa using hu)
theorem conv_sameS (w : World) (C : Array Value) (n c : Nat) : (convert 26 26 (.slice (some ⟨w.heap.size, 0, none⟩) n c)).run Try.prog (w.alloc (.cells C 5)) = .ok (.slice (some ⟨w.heap.size, 0, none⟩) n c) (w.alloc (.cells C 5 (C.size, C.size + 1))) :=
  Lib.run_convert_bytes_const (P := Try.prog) w 26 5 C n c Try.underlying26 Try.underlying5
theorem lit_bytesS {w : World} {g : Nat} {l : List UInt8} {t : TypeId} {fr : Nat × Nat} (h : w.heap[g]? = some (.cells (cells l).toArray t fr)) (hl : l.length ≤ maxLen) : Rv w (fun b => b = g) (.slice (some ⟨g, 0, none⟩) l.length l.length) (bytesD l) :=
  rv_bytes.2 ⟨_, _, rfl, fun j u hj => ⟨_, rfl, rfl, by
    rw [Addr.add_mid, Nat.zero_add, cell_of_row _ _ _ _ _ _ h]
    simpa using hj⟩, (fun h => by cases h), Nat.le_refl _, hl⟩
theorem lv18_at : writeN (newS 10) [97, 98, 99, 100, 101, 102] = 6 ∧ nextO (writeS (newS 10) [97, 98, 99, 100, 101, 102]) 4 3 = true ∧ addS (writeS (newS 10) [97, 98, 99, 100, 101, 102]).first (writeS (newS 10) [97, 98, 99, 100, 101, 102]).sent = 10 ∧ nextB (writeS (newS 10) [97, 98, 99, 100, 101, 102]) 4 3 = [97, 98, 99] ∧ nextO (nextS (writeS (newS 10) [97, 98, 99, 100, 101, 102]) 4 3) 4 3 = true ∧ addS (nextS (writeS (newS 10) [97, 98, 99, 100, 101, 102]) 4 3).first (nextS (writeS (newS 10) [97, 98, 99, 100, 101, 102]) 4 3).sent = 13 ∧ nextB (nextS (writeS (newS 10) [97, 98, 99, 100, 101, 102]) 4 3) 4 3 = [100] ∧ ackN (nextS (nextS (writeS (newS 10) [97, 98, 99, 100, 101, 102]) 4 3) 4 3) 12 = 2 ∧ ackE (nextS (nextS (writeS (newS 10) [97, 98, 99, 100, 101, 102]) 4 3) 4 3) 12 = 0 ∧ againO (ackS (nextS (nextS (writeS (newS 10) [97, 98, 99, 100, 101, 102]) 4 3) 4 3) 12) 9 = true ∧ addS (ackS (nextS (nextS (writeS (newS 10) [97, 98, 99, 100, 101, 102]) 4 3) 4 3) 12).first (againF (ackS (nextS (nextS (writeS (newS 10) [97, 98, 99, 100, 101, 102]) 4 3) 4 3) 12) : Nat) = 12 ∧ againB (ackS (nextS (nextS (writeS (newS 10) [97, 98, 99, 100, 101, 102]) 4 3) 4 3) 12) 9 = [99, 100] := by
  decide +kernel
theorem lv18_names : ∃ X0 X1 X2 X3 X4 : Sx, OkS X0 ∧ OkS X1 ∧ OkS X2 ∧ OkS X3 ∧ OkS X4 ∧ X0 = newS 10 ∧ X1 = writeS X0 [97, 98, 99, 100, 101, 102] ∧ X2 = nextS X1 4 3 ∧ X3 = nextS X2 4 3 ∧ X4 = ackS X3 12 ∧ writeN X0 [97, 98, 99, 100, 101, 102] = 6 ∧
    nextO X1 4 3 = true ∧ nextP X1 4 3 = spcD 10 [97, 98, 99] ∧ nextO X2 4 3 = true ∧ nextP X2 4 3 = spcD 13 [100] ∧ ackN X3 12 = 2 ∧ ackE X3 12 = 0 ∧ againO X4 9 = true ∧ againP X4 9 = spcD 12 [99, 100] := by
  have h0 : OkS (newS 10) := new_okS ⟨by decide, by decide⟩
  have h1 := write_okS h0 [97, 98, 99, 100, 101, 102]
  have h2 := next_okS h1 4 3
  have h3 := next_okS h2 4 3
  have h4 := ack_okS h3 12
  obtain ⟨a1, a2, a3, a4, a5, a6, a7, a8, a9, b1, b2, b3⟩ := lv18_at
  refine ⟨_, _, _, _, _, h0, h1, h2, h3, h4, rfl, rfl, rfl, rfl, rfl, a1, a2, ?_, a5, ?_, a8, a9, b1, ?_⟩
  · unfold nextP
    rw [a2, if_pos rfl, a3, a4]
  · unfold nextP
    rw [a5, if_pos rfl, a6, a7]
  · unfold againP
    rw [b1, if_pos rfl, b2, b3]
set_option maxRecDepth 100000 in
set_option maxHeartbeats 4000000 in
theorem lives18_any (w : World) : Calls Try.prog 8 #[] w fun e w' => e = .returned (.bool true) ∧ Below w.heap.size w w' := by
  have hcs := conv_sameS
  obtain ⟨X0, X1, X2, X3, X4, h0, h1, h2, h3, h4, e0, e1, e2, e3, e4, a1, a2, a3, a4, a5, a6, a7, a8, a9⟩ := lv18_names
  have HO0 := Lib.hid h0
  have HE0 := Lib.hid e0
  have HO1 := Lib.hid h1
  have HE1 := Lib.hid e1
  have HO2 := Lib.hid h2
  have HE2 := Lib.hid e2
  have HO3 := Lib.hid h3
  have HE3 := Lib.hid e3
  have HO4 := Lib.hid h4
  have HE4 := Lib.hid e4
  have HA1 := Lib.hid a1
  have HA2 := Lib.hid a2
  have HA3 := Lib.hid a3
  have HA4 := Lib.hid a4
  have HA5 := Lib.hid a5
  have HA6 := Lib.hid a6
  have HA7 := Lib.hid a7
  have HA8 := Lib.hid a8
  have HA9 := Lib.hid a9
  clear h0 h1 h2 h3 h4 e0 e1 e2 e3 e4 a1 a2 a3 a4 a5 a6 a7 a8 a9
  have HCW := Lib.hid (fun w' cs S v S2 (hr : Rvs w' S cs.toList (sqD (concS X0))) (hv : Rv w' S2 v (bytesD [97, 98, 99, 100, 101, 102])) => write18_any X0 cs S S2 v [97, 98, 99, 100, 101, 102] w' hr HO0.out hv (by decide))
  rw [← HE1.out, HA1.out] at HCW
  have HCN := Lib.hid (fun w' cs S (hr : Rvs w' S cs.toList (sqD (concS X1))) => next18_any X1 cs S 4 3 w' hr HO1.out ⟨by decide, by decide⟩ ⟨by decide, by decide⟩)
  rw [← HE2.out, HA2.out, HA3.out] at HCN
  have HCM := Lib.hid (fun w' cs S (hr : Rvs w' S cs.toList (sqD (concS X2))) => next18_any X2 cs S 4 3 w' hr HO2.out ⟨by decide, by decide⟩ ⟨by decide, by decide⟩)
  rw [← HE3.out, HA4.out, HA5.out] at HCM
  have HCK := Lib.hid (fun w' cs S (hr : Rvs w' S cs.toList (sqD (concS X3))) => ack18_any X3 cs S 12 w' hr HO3.out ⟨by decide, by decide⟩)
  rw [← HE4.out, HA6.out, HA7.out] at HCK
  have HCG := Lib.hid (fun w' cs S (hr : Rvs w' S cs.toList (sqD (concS X4))) => again18_any X4 cs S 9 w' hr HO4.out ⟨by decide, by decide⟩)
  rw [HA8.out, HA9.out] at HCG
  go_enter Try.func8, Try.ntmps8
  go_wp2_with fail
  refine (new18_any 10 _ ⟨by decide, by decide⟩).mono ?_
  rintro e w1 ⟨cs1, rfl, hr, hb⟩
  rw [← HE0.out] at hr
  have F1 := Lib.hid ((Frm.start (Below.refl _ _)).new hb hr)
  have F2 := Lib.hid (F1.out.call ((Below.refl _ _).alloc (Nat.le_refl _) (.cells #[.int .u8 97, .int .u8 98, .int .u8 99, .int .u8 100, .int .u8 101, .int .u8 102] 5 (6, 7))))
  clear hr hb F1
  go_wp2_with fail
  refine (HCW.out _ _ _ _ _ (F2.out.val (i := 0) rfl) (lit_bytesS (heap_alloc_new w1 _) (by decide))).mono ?_
  rintro e w2 ⟨cs2, rfl, hr, hb⟩
  obtain ⟨v1, rfl, -, h1⟩ := sq_of hr
  have H1 := Lib.hid h1
  have F3 := Lib.hid (F2.out.res hb hr)
  clear hr hb h1 F2 HCW
  go_upto_region 2 with (first | (refine wpList_store_new rfl 28 _ _ rfl w2 #[.int .u32 0, .slice none 0 0, .int .i64 0, .bool false, .bool false, .bool false] (sqC (concS X1) v1) rfl rfl (by kernel_rfl) rfl H1.out ?_) | go_in)
  have F4 : Hid (Frm w (w2.alloc (.cells (sqC (concS X1) v1) 28)) [(w2.heap.size, (sqC (concS X1) v1), 28)] [((sqC (concS X1) v1).toList, sqD (concS X1))]) := Lib.hid ((F3.out.alloc _ _).drop 0 rfl (fun p hp => by simp only [List.mem_cons, List.not_mem_nil, or_false] at hp ⊢; rcases hp with rfl; simp))
  obtain ⟨g, hg⟩ : ∃ g, w2.heap.size = g := ⟨_, rfl⟩
  rw [hg] at F4 ⊢
  clear hg F3 H1
  generalize w2.alloc (.cells (sqC (concS X1) v1) 28) = w3 at F4 ⊢
  go_wp2_with (refine wpList_load_row rfl 28 _ rfl g rfl 28 (sqC (concS X1) v1) (0, 0) _ (F4.out.at (i := 0) rfl) Try.underlying28 rfl (by kernel_rfl) ?_)
  refine (HCN.out _ _ _ (F4.out.val (i := 0) rfl)).mono ?_
  rintro e ws1 ⟨cs', ps', rfl, hr, hp, hb⟩
  obtain ⟨v2, rfl, -, h1⟩ := sq_of hr
  obtain ⟨vp1, rfl, -, h2⟩ := pc_of hp
  have H1 := Lib.hid h1
  have H2 := Lib.hid h2
  have FA := Lib.hid (((F4.out.res hb hr).more F4.out hp).alloc #[.int .u32 0, .slice none 0 0] 46)
  clear hr hp hb h1 h2 F4 HCN
  have FB := Lib.hid (FA.out.put (i := 1) rfl (sqC (concS X2) v2))
  go_upto_region 3 with (first | (refine wpList_store_row rfl 28 _ _ rfl g (sqC (concS X2) v2) rfl rfl 28 (sqC (concS X1) v1) (FA.out.at (i := 1) rfl) (by kernel_rfl) rfl H1.out ?_) | (refine wpList_store_row rfl 46 _ _ rfl ws1.heap.size #[.int .u32 10, vp1] rfl rfl 46 #[.int .u32 0, .slice none 0 0] (FB.out.at (i := 0) rfl) (by kernel_rfl) rfl H2.out ?_) | go_in)
  have FC := Lib.hid (FB.out.put (i := 0) rfl #[.int .u32 10, vp1])
  clear FA FB H1 H2
  obtain ⟨p1, hg⟩ : ∃ g, ws1.heap.size = g := ⟨_, rfl⟩
  rw [hg] at FC ⊢
  clear hg
  generalize ((ws1.alloc (.cells #[.int .u32 0, .slice none 0 0] 46)).setRow g (sqC (concS X2) v2)).setRow p1 #[.int .u32 10, vp1] = w5 at FC ⊢
  have F5 : Hid (Frm w w5 [(p1, #[.int .u32 10, vp1], 46), (g, (sqC (concS X2) v2), 28)] [((#[.int .u32 10, vp1] : Array Value).toList, spcD 10 [97, 98, 99]), ((sqC (concS X2) v2).toList, sqD (concS X2))]) := Lib.hid (FC.out.drop 0 rfl (fun p hp => by simp only [List.mem_cons, List.not_mem_nil, or_false] at hp ⊢; rcases hp with rfl | rfl <;> simp))
  clear FC
  go_wp2_with (refine wpList_load_row rfl 28 _ rfl g rfl 28 (sqC (concS X2) v2) (0, 0) _ (F5.out.at (i := 1) rfl) Try.underlying28 rfl (by kernel_rfl) ?_)
  refine (HCM.out _ _ _ (F5.out.val (i := 1) rfl)).mono ?_
  rintro e ws2 ⟨cs', ps', rfl, hr, hp, hb⟩
  obtain ⟨v3, rfl, -, h1⟩ := sq_of hr
  obtain ⟨vp2, rfl, -, h2⟩ := pc_of hp
  have H1 := Lib.hid h1
  have H2 := Lib.hid h2
  have FA := Lib.hid (((F5.out.res hb hr).more F5.out hp).alloc #[.int .u32 0, .slice none 0 0] 46)
  clear hr hp hb h1 h2 F5 HCM
  have FB := Lib.hid (FA.out.put (i := 2) rfl (sqC (concS X3) v3))
  go_upto_region 4 with (first | (refine wpList_store_row rfl 28 _ _ rfl g (sqC (concS X3) v3) rfl rfl 28 (sqC (concS X2) v2) (FA.out.at (i := 2) rfl) (by kernel_rfl) rfl H1.out ?_) | (refine wpList_store_row rfl 46 _ _ rfl ws2.heap.size #[.int .u32 13, vp2] rfl rfl 46 #[.int .u32 0, .slice none 0 0] (FB.out.at (i := 0) rfl) (by kernel_rfl) rfl H2.out ?_) | go_in)
  have FC := Lib.hid (FB.out.put (i := 0) rfl #[.int .u32 13, vp2])
  clear FA FB H1 H2
  obtain ⟨p2, hg⟩ : ∃ g, ws2.heap.size = g := ⟨_, rfl⟩
  rw [hg] at FC ⊢
  clear hg
  generalize ((ws2.alloc (.cells #[.int .u32 0, .slice none 0 0] 46)).setRow g (sqC (concS X3) v3)).setRow p2 #[.int .u32 13, vp2] = w6 at FC ⊢
  have F6 : Hid (Frm w w6 [(p2, #[.int .u32 13, vp2], 46), (p1, #[.int .u32 10, vp1], 46), (g, (sqC (concS X3) v3), 28)] [((#[.int .u32 13, vp2] : Array Value).toList, spcD 13 [100]), ((#[.int .u32 10, vp1] : Array Value).toList, spcD 10 [97, 98, 99]), ((sqC (concS X3) v3).toList, sqD (concS X3))]) := Lib.hid (FC.out.drop 0 rfl (fun p hp => by simp only [List.mem_cons, List.not_mem_nil, or_false] at hp ⊢; rcases hp with rfl | rfl | rfl <;> simp))
  clear FC
  go_wp2_with (refine wpList_load_row rfl 28 _ rfl g rfl 28 (sqC (concS X3) v3) (0, 0) _ (F6.out.at (i := 2) rfl) Try.underlying28 rfl (by kernel_rfl) ?_)
  refine (HCK.out _ _ _ (F6.out.val (i := 2) rfl)).mono ?_
  rintro e w7 ⟨cs', rfl, hr, hb⟩
  obtain ⟨v4, rfl, -, h1⟩ := sq_of hr
  have H1 := Lib.hid h1
  have F7 := Lib.hid (F6.out.res hb hr)
  clear hr hb h1 F6 HCK
  go_upto_region 5 with (first | (refine wpList_store_row rfl 28 _ _ rfl g (sqC (concS X4) v4) rfl rfl 28 (sqC (concS X3) v3) (F7.out.at (i := 2) rfl) (by kernel_rfl) rfl H1.out ?_) | go_in)
  have F8 : Hid (Frm w (w7.setRow g (sqC (concS X4) v4)) [(p2, #[.int .u32 13, vp2], 46), (p1, #[.int .u32 10, vp1], 46), (g, (sqC (concS X4) v4), 28)] [((#[.int .u32 13, vp2] : Array Value).toList, spcD 13 [100]), ((#[.int .u32 10, vp1] : Array Value).toList, spcD 10 [97, 98, 99]), ((sqC (concS X4) v4).toList, sqD (concS X4))]) := Lib.hid ((F7.out.put (i := 2) rfl _).drop 0 rfl (fun p hp => by simp only [List.mem_cons, List.not_mem_nil, or_false] at hp ⊢; rcases hp with rfl | rfl | rfl <;> simp))
  generalize w7.setRow g (sqC (concS X4) v4) = w8 at F8 ⊢
  clear F7 H1
  go_wp2_with (refine wpList_load_row rfl 28 _ rfl g rfl 28 (sqC (concS X4) v4) (0, 0) _ (F8.out.at (i := 2) rfl) Try.underlying28 rfl (by kernel_rfl) ?_)
  refine (HCG.out _ _ _ (F8.out.val (i := 2) rfl)).mono ?_
  rintro e ws3 ⟨ps', rfl, hp, hb⟩
  obtain ⟨vp3, rfl, -, h2⟩ := pc_of hp
  have H2 := Lib.hid h2
  have FA := Lib.hid ((F8.out.res hb hp).alloc #[.int .u32 12, vp3] 46)
  clear hp hb h2 F8 HCG
  go_upto_region 6 with (first | (refine wpList_store_new rfl 46 _ _ rfl ws3 #[.int .u32 0, .slice none 0 0] #[.int .u32 12, vp3] rfl rfl (by kernel_rfl) rfl H2.out ?_) | go_in)
  obtain ⟨p3, hg⟩ : ∃ g, ws3.heap.size = g := ⟨_, rfl⟩
  rw [hg] at FA ⊢
  clear hg H2
  generalize ws3.alloc (.cells #[.int .u32 12, vp3] 46) = w9 at FA ⊢
  obtain ⟨c0, c1⟩ := two_cells (FA.out.at (i := 0) rfl)
  obtain ⟨d0, d1⟩ := two_cells (FA.out.at (i := 1) rfl)
  obtain ⟨f0, f1⟩ := two_cells (FA.out.at (i := 2) rfl)
  have bD : ∀ {S : Nat → Prop} {a : Int} {u : Value} {l : List UInt8}, Rvs w9 S (#[.int .u32 a, u] : Array Value).toList (spcD a l) → Rv w9 S u (bytesD l) := fun h => (rvs_cons.1 (rvs_cons.1 h).2).1
  have hv3 := conv_bytesS (bD (FA.out.val (i := 0) rfl)) w9 (Below.refl _ _)
  have hv2 := conv_bytesS (bD (FA.out.val (i := 1) rfl)) w9 (Below.refl _ _)
  have hv1 := conv_bytesS (bD (FA.out.val (i := 2) rfl)) w9 (Below.refl _ _)
  have HBE := Lib.hid FA.out.below
  clear bD FA
  go_wp2
  go_ret
  exact ⟨rfl, HBE.out⟩
end Go.Proofs.Ytebflcpoecolbaa
