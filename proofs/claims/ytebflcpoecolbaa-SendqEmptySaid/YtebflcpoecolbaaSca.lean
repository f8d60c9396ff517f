/-
  The code's Clone, New, Close, Room, Flight, Empty of layer 18. Every state of not too many bytes.
-/
import Derived.Test.YtebflcpoecolbaaSb
import Derived.Test.YtebflcpoecolbaaFld
import Derived.Test.YtebflcpoecolbaaVar
import Derived.Test.YtebflcpoecolbaaByt
import Derived.Laws.CopyOwn
import Derived.Lib.AppendZeros
namespace Go.Proofs.Ytebflcpoecolbaa
open Go.RowKit

def Zsq : Array Value := #[.int .u32 0, .slice none 0 0, .int .i64 0, .bool false, .bool false, .bool false]
theorem sqc_ones {q : Sq} {v : Value} (h : v.oneCell' = true) : (sqC q v).all (·.oneCell') = true := Array.all_eq_true_iff_forall_mem.2 fun u hu => by
  simp only [sqC, List.mem_toArray, List.mem_cons, List.not_mem_nil, or_false] at hu
  rcases hu with rfl | rfl | rfl | rfl | rfl | rfl
  · rfl
  · exact h
  · rfl
  · rfl
  · rfl
  · rfl
theorem sqc_rvs {w : World} {S : Nat → Prop} {q : Sq} {v : Value} (h : Rv w S v (bytesD q.data)) : Rvs w S (sqC q v).toList (sqD q) :=
  rvs_cons.2 ⟨.val rfl, rvs_cons.2 ⟨h, rvs_cons.2 ⟨.val rfl, rvs_cons.2 ⟨.val rfl, rvs_cons.2 ⟨.val rfl, rvs_cons.2 ⟨.val rfl, rvs_nil⟩⟩⟩⟩⟩⟩
theorem own_set18 {w : World} {g base n : Nat} {C : Array Value} {t : TypeId} {fr : Nat × Nat} {v : Value} {xs : List Value} (h : w.ownsRow base 5 1 v n xs) (hg : w.heap[g]? = some (.cells C t fr)) (ht : t ≠ 5) (D : Array Value) : (w.setRow g D).ownsRow base 5 1 v n xs := by
  refine ⟨h.1, ?_⟩
  rcases h.2 with h | ⟨g', cap, cur, e, h1, h2, h3⟩
  · exact .inl h
  · exact .inr ⟨g', cap, cur, e, h1, (setRow_other _ _ _ _ (ty_ne h2 hg ht.symm)).trans h2, h3⟩
theorem own_rv {w : World} {base : Nat} {v : Value} {l : List UInt8} (h : w.ownsRow base 5 1 v l.length (cells l)) : Rv w (fun b => base ≤ b) v (bytesD l) := by
  obtain ⟨A, c, rfl, _⟩ := ownk_form h
  exact byt_own h rfl
theorem own_one {w : World} {base n : Nat} {v : Value} {xs : List Value} (h : w.ownsRow base 5 1 v n xs) : v.oneCell' = true := by
  obtain ⟨A, c, rfl, _⟩ := ownk_form h
  rfl
theorem rv_blw18 {w w' : World} {S : Nat → Prop} {v : Value} {d : Dat} (h : Rv w S v d) (hb : Below w.heap.size w w') : Rv w' S v d := ((rv_lt h).kept hb (fun _ h => h.2)).wide fun _ h => h.1
/-- bytes.Clone -/
theorem bclone18 (v : Value) (l : List UInt8) (S : Nat → Prop) (w : World) (h : Rv w S v (bytesD l)) (hm : l.length ≤ 1000000) :
    Calls Try.prog 31 #[v] w fun e w' => ∃ v', e = .returned v' ∧ w'.ownsRow w.heap.size 5 1 v' l.length (cells l) ∧ Below w.heap.size w w' := by
  obtain ⟨A, c, rfl, h1, h2, h3, h4⟩ := rv_bytes.1 (rv_lt h)
  obtain ⟨n, hn⟩ : ∃ n, l.length = n := ⟨_, rfl⟩
  rw [hn] at h3 hm ⊢
  obtain ⟨i0, hi0, hz0, hz1, hz2⟩ := byte_parts
  have HR := Lib.hid (RdS.rd h1 (fun _ h => ⟨Nat.zero_le _, h.2⟩))
  have HN := Lib.hid hn
  have hnil := Lib.run_eql_slice_nil (P := Try.prog) w 26 5 A n c 0 0 Try.underlying26
  rcases A with _ | ad
  · have HL : Hid (l = []) := List.eq_nil_of_length_eq_zero (HN.out.trans (by have := h2 rfl; omega))
    clear h h1 h2 h3 h4 hn
    go_enter Try.func31, Try.ntmps31
    go_wp2
    go_ret
    exact ⟨_, rfl, by rw [← HN.out, HL.out]; exact World.ownsRow_nil _ _ _ _, Below.refl _ _⟩
  · clear h h1 h2 h3 h4 hn
    go_enter Try.func31, Try.ntmps31
    go_wp2_with (at_builtin; refine wpList_append_rd rfl _ _ 26 rfl w.heap.size 5 i0 (.int .u8 0) 1 Try.underlying26 hi0 hz0 hz1 hz2 rfl _ _ _ rfl (own_lit _ [] _ _ w.heap.size 0 (by simp) (by simp) (by unfold maxLen; omega) rfl) (some ad) n c (cells l) rfl (fun h => by cases h) (by rw [cells_length]; exact HN.out) ((HR.out.alloc (Nat.le_refl _) _)) (cells_one l) (by unfold maxLen; omega) (by omega) (by simp) ?_)
    intro v2 w2 hown2 hgrow2
    have HB : Hid (Below w.heap.size w w2) := ((Below.refl w.heap.size w).alloc (Nat.le_refl _) _).grown hgrow2 (by simp) fun g hg => by simp [Value.ownBlock] at hg; omega
    have HO : Hid (w2.ownsRow w.heap.size 5 1 v2 n (cells l)) := hown2
    clear hown2 hgrow2
    go_wp2
    go_ret
    exact ⟨_, rfl, HO.out, HB.out⟩
set_option maxRecDepth 100000 in
set_option maxHeartbeats 4000000 in
theorem clone18 (q : Sq) (v : Value) (S : Nat → Prop) (w : World) (hv : Rv w S v (bytesD q.data)) (hl : q.data.length ≤ 1000000) : Calls Try.prog 19 #[.agg (sqC q v)] w fun e w' => ∃ v1, e = .returned (.agg (sqC q v1)) ∧ w'.ownsRow (w.heap.size + 2) 5 1 v1 q.data.length (cells q.data) ∧ Below w.heap.size w w' := by
  have HD := Lib.hid hv
  have HDL := Lib.hid hl
  clear hv hl
  obtain ⟨w1, hw1⟩ : ∃ w1, (w.alloc (.cells (sqC q v) 28)).alloc (.cells (Zsq) 28) = w1 := ⟨_, rfl⟩
  have HB : Hid (Below w.heap.size w w1) := by rw [← hw1]; exact ((Below.refl _ _).alloc (Nat.le_refl _) _).alloc (by simp) _
  have HX : Hid (w1.heap[w.heap.size]? = some (.cells (sqC q v) 28 (0, 0))) := by rw [← hw1]; exact old_alloc (heap_alloc_new w _) _
  have HZ : Hid (w1.heap[w.heap.size + 1]? = some (.cells (Zsq) 28 (0, 0))) := by rw [← hw1]; exact new_at1 w _ _
  have HS1 : Hid (w1.heap.size = w.heap.size + 2) := by show _ = _; rw [← hw1]; simp
  have HW := Lib.hid hw1
  clear hw1
  go_enter Try.func19, Try.ntmps19
  go_upto_region 1 with (fail)
  change Code.wp _ _ _ _ ((w.alloc (.cells (sqC q v) 28)).alloc (.cells (Zsq) 28))
  rw [HW.out]
  clear HW
  have c1 : w1.cell? ⟨w.heap.size, 1, none⟩ = some (v) := by rw [cell_of_row _ _ _ _ _ _ HX.out]; rfl
  go_wp2_with fail
  refine (bclone18 v q.data S w1 (rv_blw18 HD.out HB.out) HDL.out).mono ?_
  rintro e w2 ⟨v1, rfl, hv, hb2⟩
  have HO2 : Hid (w2.ownsRow (w.heap.size + 2) 5 1 v1 q.data.length (cells q.data)) := ownk_base hv (by have := HS1.out; omega)
  have HONE : Hid (v1.oneCell' = true) := own_one hv
  have HX2 : Hid (w2.heap[w.heap.size]? = some (.cells (sqC q v) 28 (0, 0))) := old_below HX.out hb2 (row_lt HX.out)
  have HZ2 : Hid (w2.heap[w.heap.size + 1]? = some (.cells (Zsq) 28 (0, 0))) := old_below HZ.out hb2 (row_lt HZ.out)
  have HB2 := Lib.hid (HB.out.trans (hb2.mono HB.out.size))
  clear hv hb2 c1 HX HZ HB
  go_upto_region 2 with (first | (refine wpList_store_fld rfl 26 _ _ rfl w.heap.size 1 rfl (v1) rfl 28 (sqC q v) HX2.out (by show 1 < 6; omega) (by kernel_rfl) (HONE.out) (sqC q v1) rfl ?_; obtain ⟨w3, hw3⟩ : ∃ x, w2.setRow w.heap.size (sqC q v1) = x := ⟨_, rfl⟩; have HX3 : Hid (w3.heap[w.heap.size]? = some (.cells (sqC q v1) 28 (0, 0))) := (by rw [← hw3]; exact setRow_heap _ _ _ _ _ _ HX2.out); have HZ3 : Hid (w3.heap[w.heap.size + 1]? = some (.cells (Zsq) 28 (0, 0))) := (by rw [← hw3]; exact (setRow_other _ _ _ _ (by omega)).trans HZ2.out); have HO3 : Hid (w3.ownsRow (w.heap.size + 2) 5 1 (v1) (q.data.length) ((cells q.data))) := (by rw [← hw3]; exact own_set18 HO2.out HX2.out (by decide) _); have HB3 : Hid (Below w.heap.size w w3) := (by rw [← hw3]; exact below_setRow HB2.out (by omega) _); have HSZ3 : Hid (w3.heap.size = w2.heap.size) := (by show _ = _; rw [← hw3]; simp [World.setRow]); have HW3 := Lib.hid hw3; clear hw3; rw [HW3.out]; clear HW3 HX2 HZ2 HO2 HB2) | go_in)
  go_wp2_with (first | (refine wpList_load_row rfl 28 _ rfl w.heap.size rfl 28 (sqC q v1) (0, 0) _ HX3.out Try.underlying28 rfl (by kernel_rfl) ?_) | (refine wpList_store_row rfl 28 _ _ rfl (w.heap.size + 1) (sqC q v1) rfl rfl 28 (Zsq) HZ3.out (by kernel_rfl) rfl (sqc_ones HONE.out) ?_))
  refine ret_one (g := w.heap.size + 1) rfl rfl (setRow_heap _ _ _ _ _ _ HZ3.out) Try.underlying28 rfl (by kernel_rfl) rfl ?_
  exact ⟨v1, rfl, own_set18 HO3.out HZ3.out (by decide) _, below_setRow HB3.out (by omega) _⟩
theorem new18 (n : Int) (w : World) : Calls Try.prog 10 #[.int .u32 n] w fun e w' => e = .returned (.agg (sqC ⟨n, [], 0, false, false, false⟩ (.slice none 0 0))) ∧ Below w.heap.size w w' := by
  obtain ⟨w1, hw1⟩ : ∃ w1, w.alloc (.cells Zsq 28) = w1 := ⟨_, rfl⟩
  have HB : Hid (Below w.heap.size w w1) := by rw [← hw1]; exact (Below.refl _ _).alloc (Nat.le_refl _) _
  have HX : Hid (w1.heap[w.heap.size]? = some (.cells Zsq 28 (0, 0))) := by rw [← hw1]; exact heap_alloc_new w _
  have HW := Lib.hid hw1
  clear hw1
  go_enter Try.func10, Try.ntmps10
  go_upto_region 1 with (fail)
  change Code.wp _ _ _ _ (w.alloc (.cells Zsq 28))
  rw [HW.out]
  clear HW
  go_wp2_with (refine wpList_store_row rfl 28 _ _ rfl w.heap.size (sqC ⟨n, [], 0, false, false, false⟩ (.slice none 0 0)) rfl rfl 28 (Zsq) HX.out (by kernel_rfl) rfl (sqc_ones rfl) ?_)
  refine ret_one (g := w.heap.size) rfl rfl (setRow_heap _ _ _ _ _ _ HX.out) Try.underlying28 rfl (by kernel_rfl) rfl ?_
  exact ⟨rfl, below_setRow HB.out (Nat.le_refl _) _⟩
set_option maxRecDepth 100000 in
set_option maxHeartbeats 4000000 in
theorem close18 (q : Sq) (v : Value) (S : Nat → Prop) (w : World) (hv : Rv w S v (bytesD q.data)) (hl : q.data.length ≤ 1000000) : Calls Try.prog 24 #[.agg (sqC q v)] w fun e w' => ∃ v1, e = .returned (.agg (sqC { q with fin := true } v1)) ∧ w'.ownsRow (w.heap.size + 2) 5 1 v1 q.data.length (cells q.data) ∧ Below w.heap.size w w' := by
  have HD := Lib.hid hv
  have HDL := Lib.hid hl
  clear hv hl
  obtain ⟨w1, hw1⟩ : ∃ w1, (w.alloc (.cells (sqC q v) 28)).alloc (.cells (Zsq) 28) = w1 := ⟨_, rfl⟩
  have HB : Hid (Below w.heap.size w w1) := by rw [← hw1]; exact ((Below.refl _ _).alloc (Nat.le_refl _) _).alloc (by simp) _
  have HX : Hid (w1.heap[w.heap.size]? = some (.cells (sqC q v) 28 (0, 0))) := by rw [← hw1]; exact old_alloc (heap_alloc_new w _) _
  have HZ : Hid (w1.heap[w.heap.size + 1]? = some (.cells (Zsq) 28 (0, 0))) := by rw [← hw1]; exact new_at1 w _ _
  have HS1 : Hid (w1.heap.size = w.heap.size + 2) := by show _ = _; rw [← hw1]; simp
  have HW := Lib.hid hw1
  clear hw1
  go_enter Try.func24, Try.ntmps24
  go_upto_region 1 with (fail)
  change Code.wp _ _ _ _ ((w.alloc (.cells (sqC q v) 28)).alloc (.cells (Zsq) 28))
  rw [HW.out]
  clear HW
  go_wp2_with (refine wpList_load_row rfl 28 _ rfl w.heap.size rfl 28 (sqC q v) (0, 0) _ HX.out Try.underlying28 rfl (by kernel_rfl) ?_)
  refine (clone18 q v S w1 (rv_blw18 HD.out HB.out) HDL.out).mono ?_
  rintro e w2 ⟨v1, rfl, hv, hb2⟩
  have HO2 : Hid (w2.ownsRow (w.heap.size + 2) 5 1 v1 q.data.length (cells q.data)) := ownk_base hv (by have := HS1.out; omega)
  have HONE : Hid (v1.oneCell' = true) := own_one hv
  have HX2 : Hid (w2.heap[w.heap.size]? = some (.cells (sqC q v) 28 (0, 0))) := old_below HX.out hb2 (row_lt HX.out)
  have HZ2 : Hid (w2.heap[w.heap.size + 1]? = some (.cells (Zsq) 28 (0, 0))) := old_below HZ.out hb2 (row_lt HZ.out)
  have HB2 := Lib.hid (HB.out.trans (hb2.mono HB.out.size))
  clear hv hb2 HX HB HZ
  go_upto_region 2 with (first | (refine wpList_store_row rfl 28 _ _ rfl w.heap.size (sqC q v1) rfl rfl 28 (sqC q v) HX2.out (by kernel_rfl) rfl (sqc_ones HONE.out) ?_; obtain ⟨w3, hw3⟩ : ∃ x, w2.setRow w.heap.size (sqC q v1) = x := ⟨_, rfl⟩; have HX3 : Hid (w3.heap[w.heap.size]? = some (.cells (sqC q v1) 28 (0, 0))) := (by rw [← hw3]; exact setRow_heap _ _ _ _ _ _ HX2.out); have HZ3 : Hid (w3.heap[w.heap.size + 1]? = some (.cells (Zsq) 28 (0, 0))) := (by rw [← hw3]; exact (setRow_other _ _ _ _ (by omega)).trans HZ2.out); have HO3 : Hid (w3.ownsRow (w.heap.size + 2) 5 1 (v1) (q.data.length) ((cells q.data))) := (by rw [← hw3]; exact own_set18 HO2.out HX2.out (by decide) _); have HB3 : Hid (Below w.heap.size w w3) := (by rw [← hw3]; exact below_setRow HB2.out (by omega) _); have HSZ3 : Hid (w3.heap.size = w2.heap.size) := (by show _ = _; rw [← hw3]; simp [World.setRow]); have HW3 := Lib.hid hw3; clear hw3; rw [HW3.out]; clear HW3 HX2 HZ2 HO2 HB2) | go_in)
  go_upto_region 3 with (first | (refine wpList_store_fld rfl 4 _ _ rfl w.heap.size 3 rfl (.bool true) rfl 28 (sqC q v1) HX3.out (by show 3 < 6; omega) (by kernel_rfl) (rfl) (sqC { q with fin := true } v1) rfl ?_; obtain ⟨w4, hw4⟩ : ∃ x, w3.setRow w.heap.size (sqC { q with fin := true } v1) = x := ⟨_, rfl⟩; have HX4 : Hid (w4.heap[w.heap.size]? = some (.cells (sqC { q with fin := true } v1) 28 (0, 0))) := (by rw [← hw4]; exact setRow_heap _ _ _ _ _ _ HX3.out); have HZ4 : Hid (w4.heap[w.heap.size + 1]? = some (.cells (Zsq) 28 (0, 0))) := (by rw [← hw4]; exact (setRow_other _ _ _ _ (by omega)).trans HZ3.out); have HO4 : Hid (w4.ownsRow (w.heap.size + 2) 5 1 (v1) (q.data.length) ((cells q.data))) := (by rw [← hw4]; exact own_set18 HO3.out HX3.out (by decide) _); have HB4 : Hid (Below w.heap.size w w4) := (by rw [← hw4]; exact below_setRow HB3.out (by omega) _); have HSZ4 : Hid (w4.heap.size = w3.heap.size) := (by show _ = _; rw [← hw4]; simp [World.setRow]); have HW4 := Lib.hid hw4; clear hw4; rw [HW4.out]; clear HW4 HX3 HZ3 HO3 HB3) | go_in)
  go_wp2_with (first | (refine wpList_load_row rfl 28 _ rfl w.heap.size rfl 28 (sqC { q with fin := true } v1) (0, 0) _ HX4.out Try.underlying28 rfl (by kernel_rfl) ?_) | (refine wpList_store_row rfl 28 _ _ rfl (w.heap.size + 1) (sqC { q with fin := true } v1) rfl rfl 28 (Zsq) HZ4.out (by kernel_rfl) rfl (sqc_ones HONE.out) ?_))
  refine ret_one (g := w.heap.size + 1) rfl rfl (setRow_heap _ _ _ _ _ _ HZ4.out) Try.underlying28 rfl (by kernel_rfl) rfl ?_
  exact ⟨v1, rfl, own_set18 HO4.out HZ4.out (by decide) _, below_setRow HB4.out (by omega) _⟩
theorem room18 (q : Sq) (v : Value) (S : Nat → Prop) (w : World) (hv : Rv w S v (bytesD q.data)) (hl : q.data.length ≤ 256) : Calls Try.prog 14 #[.agg (sqC q v)] w fun e w' => e = .returned (.int .i64 (if q.fin = true then 0 else 256 - (q.data.length : Int))) ∧ Below w.heap.size w w' := by
  obtain ⟨A, c, rfl, -, -, h3, h4⟩ := rv_bytes.1 hv
  obtain ⟨n, hn⟩ : ∃ n, q.data.length = n := ⟨_, rfl⟩
  have HN := Lib.hid hn
  rw [hn] at h3 hl ⊢
  have hc63 : c ≤ 9223372036854775807 := by unfold maxLen at h4; omega
  obtain ⟨R, hR⟩ : ∃ R : Int, (if q.fin = true then (0 : Int) else 256 - (n : Int)) = R := ⟨_, rfl⟩
  have HR := Lib.hid hR
  rw [hR]
  clear hR
  clear hv hn h4
  obtain ⟨w1, hw1⟩ : ∃ w1, w.alloc (.cells (sqC q (.slice A n c)) 28) = w1 := ⟨_, rfl⟩
  have HB : Hid (Below w.heap.size w w1) := by rw [← hw1]; exact (Below.refl _ _).alloc (Nat.le_refl _) _
  have HX : Hid (w1.heap[w.heap.size]? = some (.cells (sqC q (.slice A n c)) 28 (0, 0))) := by rw [← hw1]; exact heap_alloc_new w _
  have HS1 : Hid (w1.heap.size = w.heap.size + 1) := by show _ = _; rw [← hw1]; simp
  have HW := Lib.hid hw1
  clear hw1
  go_enter Try.func14, Try.ntmps14
  go_upto_region 1 with (fail)
  change Code.wp _ _ _ _ (w.alloc (.cells (sqC q (.slice A n c)) 28))
  rw [HW.out]
  clear HW
  have c1 : w1.cell? ⟨w.heap.size, 1, none⟩ = some (.slice A n c) := by rw [cell_of_row _ _ _ _ _ _ HX.out]; rfl
  have c3 : w1.cell? ⟨w.heap.size, 3, none⟩ = some (.bool q.fin) := by rw [cell_of_row _ _ _ _ _ _ HX.out]; rfl
  obtain ⟨f, hf⟩ : ∃ f, q.fin = f := ⟨_, rfl⟩
  rw [hf] at c3
  have HF := Lib.hid hf
  clear hf
  cases f
  · go_wp2
    go_ret
    exact ⟨by rw [← HR.out, HF.out]; rfl, HB.out⟩
  · go_wp2
    go_ret
    exact ⟨by rw [← HR.out, HF.out]; rfl, HB.out⟩
theorem sent18 (q : Sq) (v : Value) (S : Nat → Prop) (w : World) (hv : Rv w S v (bytesD q.data)) (hs : q.sent ≤ q.data.length) (hl : q.data.length ≤ 256) : Calls Try.prog 30 #[.agg (sqC q v)] w fun e w' => e = .returned (.int .i64 (q.sent : Int)) ∧ Below w.heap.size w w' := by
  obtain ⟨A, c, rfl, -, -, h3, h4⟩ := rv_bytes.1 hv
  obtain ⟨n, hn⟩ : ∃ n, q.data.length = n := ⟨_, rfl⟩
  have HN := Lib.hid hn
  rw [hn] at h3 hl ⊢
  have hc63 : c ≤ 9223372036854775807 := by unfold maxLen at h4; omega
  rw [hn] at hs
  clear hv hn h4
  obtain ⟨w1, hw1⟩ : ∃ w1, w.alloc (.cells (sqC q (.slice A n c)) 28) = w1 := ⟨_, rfl⟩
  have HB : Hid (Below w.heap.size w w1) := by rw [← hw1]; exact (Below.refl _ _).alloc (Nat.le_refl _) _
  have HX : Hid (w1.heap[w.heap.size]? = some (.cells (sqC q (.slice A n c)) 28 (0, 0))) := by rw [← hw1]; exact heap_alloc_new w _
  have HS1 : Hid (w1.heap.size = w.heap.size + 1) := by show _ = _; rw [← hw1]; simp
  have HW := Lib.hid hw1
  clear hw1
  go_enter Try.func30, Try.ntmps30
  go_upto_region 1 with (fail)
  change Code.wp _ _ _ _ (w.alloc (.cells (sqC q (.slice A n c)) 28))
  rw [HW.out]
  clear HW
  have c1 : w1.cell? ⟨w.heap.size, 1, none⟩ = some (.slice A n c) := by rw [cell_of_row _ _ _ _ _ _ HX.out]; rfl
  have c2 : w1.cell? ⟨w.heap.size, 2, none⟩ = some (.int .i64 (q.sent : Int)) := by rw [cell_of_row _ _ _ _ _ _ HX.out]; rfl
  obtain ⟨s, hs0⟩ : ∃ s, q.sent = s := ⟨_, rfl⟩
  rw [hs0] at c2 hs
  have HF := Lib.hid hs0
  clear hs0
  have h5 : (s : Int) = 0 ∨ 0 < (s : Int) := by omega
  have h6 : (s : Int) = n ∨ (s : Int) < n := by omega
  rcases h5 with h5 | h5
  all_goals
    rcases h6 with h6 | h6
    all_goals
      go_wp2
      go_ret
      exact ⟨by rw [HF.out]; first | rfl | exact congrArg (fun z : Int => Ending.returned (.int .i64 z)) (by omega), HB.out⟩
theorem flight18 (q : Sq) (v : Value) (S : Nat → Prop) (w : World) (hv : Rv w S v (bytesD q.data)) (hs : q.sent ≤ q.data.length) (hl : q.data.length ≤ 256) : Calls Try.prog 16 #[.agg (sqC q v)] w fun e w' => e = .returned (.int .i64 (if (q.fsent && !q.facked) = true then (q.sent : Int) + 1 else q.sent)) ∧ Below w.heap.size w w' := by
  have HSE : Hid (∀ W, Below w.heap.size w W → Calls Try.prog 30 #[.agg (sqC q v)] W fun e w' => e = .returned (.int .i64 (q.sent : Int)) ∧ Below W.heap.size W w') := fun W hb => sent18 q v S W (rv_blw18 hv hb) hs hl
  have hs2 : (q.sent : Int) ≤ 256 := by omega
  obtain ⟨R, hR⟩ : ∃ R : Int, (if (q.fsent && !q.facked) = true then (q.sent : Int) + 1 else q.sent) = R := ⟨_, rfl⟩
  have HR := Lib.hid hR
  rw [hR]
  clear hR
  clear hv hs hl
  obtain ⟨w1, hw1⟩ : ∃ w1, w.alloc (.cells (sqC q v) 28) = w1 := ⟨_, rfl⟩
  have HB : Hid (Below w.heap.size w w1) := by rw [← hw1]; exact (Below.refl _ _).alloc (Nat.le_refl _) _
  have HX : Hid (w1.heap[w.heap.size]? = some (.cells (sqC q v) 28 (0, 0))) := by rw [← hw1]; exact heap_alloc_new w _
  have HS1 : Hid (w1.heap.size = w.heap.size + 1) := by show _ = _; rw [← hw1]; simp
  have HW := Lib.hid hw1
  clear hw1
  go_enter Try.func16, Try.ntmps16
  go_upto_region 1 with (fail)
  change Code.wp _ _ _ _ (w.alloc (.cells (sqC q v) 28))
  rw [HW.out]
  clear HW
  have c4 : w1.cell? ⟨w.heap.size, 4, none⟩ = some (.bool q.fsent) := by rw [cell_of_row _ _ _ _ _ _ HX.out]; rfl
  have c5 : w1.cell? ⟨w.heap.size, 5, none⟩ = some (.bool q.facked) := by rw [cell_of_row _ _ _ _ _ _ HX.out]; rfl
  obtain ⟨f, hf⟩ : ∃ f, q.fsent = f := ⟨_, rfl⟩
  obtain ⟨g, hg⟩ : ∃ g, q.facked = g := ⟨_, rfl⟩
  rw [hf] at c4
  rw [hg] at c5
  have HF := Lib.hid hf
  have HG := Lib.hid hg
  clear hf hg
  cases f <;> cases g
  all_goals
    go_wp2_with (refine wpList_load_row rfl 28 _ rfl w.heap.size rfl 28 (sqC q v) (0, 0) _ HX.out Try.underlying28 rfl (by kernel_rfl) ?_)
    refine (HSE.out w1 HB.out).mono ?_
    rintro e w2 ⟨rfl, hb2⟩
    have HB2 := Lib.hid (HB.out.trans (hb2.mono HB.out.size))
    clear hb2
    go_wp2
    go_ret
    exact ⟨by rw [← HR.out, HF.out, HG.out]; rfl, HB2.out⟩
theorem empty18 (q : Sq) (v : Value) (S : Nat → Prop) (w : World) (hv : Rv w S v (bytesD q.data)) : Calls Try.prog 18 #[.agg (sqC q v)] w fun e w' => e = .returned (.bool (q.data.isEmpty && (!q.fin || q.facked))) ∧ Below w.heap.size w w' := by
  obtain ⟨A, c, rfl, -, -, h3, h4⟩ := rv_bytes.1 hv
  obtain ⟨n, hn⟩ : ∃ n, q.data.length = n := ⟨_, rfl⟩
  have HE : Hid (q.data.isEmpty = decide (n = 0)) := by
    show _ = _
    rw [← hn]
    cases q.data <;> simp
  rw [hn] at h3 ⊢
  have hc63 : c ≤ 9223372036854775807 := by unfold maxLen at h4; omega
  clear hv hn h4
  obtain ⟨w1, hw1⟩ : ∃ w1, w.alloc (.cells (sqC q (.slice A n c)) 28) = w1 := ⟨_, rfl⟩
  have HB : Hid (Below w.heap.size w w1) := by rw [← hw1]; exact (Below.refl _ _).alloc (Nat.le_refl _) _
  have HX : Hid (w1.heap[w.heap.size]? = some (.cells (sqC q (.slice A n c)) 28 (0, 0))) := by rw [← hw1]; exact heap_alloc_new w _
  have HS1 : Hid (w1.heap.size = w.heap.size + 1) := by show _ = _; rw [← hw1]; simp
  have HW := Lib.hid hw1
  clear hw1
  go_enter Try.func18, Try.ntmps18
  go_upto_region 1 with (fail)
  change Code.wp _ _ _ _ (w.alloc (.cells (sqC q (.slice A n c)) 28))
  rw [HW.out]
  clear HW
  have c1 : w1.cell? ⟨w.heap.size, 1, none⟩ = some (.slice A n c) := by rw [cell_of_row _ _ _ _ _ _ HX.out]; rfl
  have c3 : w1.cell? ⟨w.heap.size, 3, none⟩ = some (.bool q.fin) := by rw [cell_of_row _ _ _ _ _ _ HX.out]; rfl
  have c5 : w1.cell? ⟨w.heap.size, 5, none⟩ = some (.bool q.facked) := by rw [cell_of_row _ _ _ _ _ _ HX.out]; rfl
  obtain ⟨f, hf⟩ : ∃ f, q.fin = f := ⟨_, rfl⟩
  obtain ⟨g, hg⟩ : ∃ g, q.facked = g := ⟨_, rfl⟩
  rw [hf] at c3
  rw [hg] at c5
  have HF := Lib.hid hf
  have HG := Lib.hid hg
  clear hf hg
  by_cases h0 : n = 0
  · subst h0
    cases f <;> cases g
    all_goals
      go_wp2
      go_ret
      exact ⟨by rw [HE.out, HF.out, HG.out]; rfl, HB.out⟩
  · have hb : ((n : Int) == 0) = false := by simp; omega
    have hd0 : decide (n = 0) = false := decide_eq_false h0
    rw [hd0] at HE
    clear h0 hd0
    cases f <;> cases g
    all_goals
      go_wp2
      go_ret
      exact ⟨by rw [HE.out, HF.out, HG.out]; rfl, HB.out⟩
end Go.Proofs.Ytebflcpoecolbaa
