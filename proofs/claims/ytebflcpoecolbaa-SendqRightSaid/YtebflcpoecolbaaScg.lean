/-
  The code's Again of layer 18. Every state that may be, every size.
-/
import Derived.Test.YtebflcpoecolbaaScn
namespace Go.Proofs.Ytebflcpoecolbaa
open Go.RowKit

def RdB18 (S : Nat → Prop) (d : Dat) : Pred := fun v w => v.oneCell' = true ∧ Rv w S v d
theorem rdb18_mono (S : Nat → Prop) (d : Dat) : Mono (RdB18 S d) := fun _ _ _ hb h => ⟨h.1, rv_blw18 h.2 hb⟩
/-- how many bytes go again, whether it is the end, whether there is a piece -/
def againQN (q : Sq) (mss : Int) : Nat := (max 0 (min (q.sent : Int) mss)).toNat
def againQE (q : Sq) (mss : Int) : Bool := q.fsent && !q.facked && decide (againQN q mss = q.data.length)
def againQO (q : Sq) (mss : Int) : Bool := decide (againQN q mss ≠ 0) || againQE q mss
def againQP (q : Sq) (mss : Int) : List Dat := if againQO q mss = true then spcD q.una (q.data.take (againQN q mss)) else spcD 0 []
set_option maxRecDepth 100000 in
set_option maxHeartbeats 4000000 in
theorem again18 (q : Sq) (v : Value) (S : Nat → Prop) (mss : Int) (w : World) (hv : Rv w S v (bytesD q.data)) (hs : q.sent ≤ q.data.length) (hl : q.data.length ≤ 256) (hms : I64 mss) : Calls Try.prog 22 #[.agg (sqC q v), .int .i64 mss] w fun e w' => ∃ ps : Array Value, e = .returned (.tuple #[.agg ps, .bool (againQE q mss), .bool (againQO q mss)]) ∧ Rvs w' (fun b => w.heap.size + 2 ≤ b) ps.toList (againQP q mss) ∧ Below w.heap.size w w' := by
  obtain ⟨P, hP⟩ : ∃ P, againQP q mss = P := ⟨_, rfl⟩
  obtain ⟨O, hO⟩ : ∃ O, againQO q mss = O := ⟨_, rfl⟩
  obtain ⟨E, hE⟩ : ∃ E, againQE q mss = E := ⟨_, rfl⟩
  obtain ⟨k, hk⟩ : ∃ k, againQN q mss = k := ⟨_, rfl⟩
  rw [hP, hO, hE]
  unfold againQP at hP
  rw [hO, hk] at hP
  unfold againQO at hO
  rw [hE, hk] at hO
  unfold againQE at hE
  rw [hk] at hE
  unfold againQN at hk
  have HPP := Lib.hid hP
  have HEE := Lib.hid hE
  have HOO := Lib.hid hO
  have HKK : Hid ((k : Int) = max 0 (min (q.sent : Int) mss)) := by show _ = _; omega
  have hkk : k ≤ q.data.length := by have := HKK.out; omega
  have HSE : Hid (∀ (W : World), Below w.heap.size w W → Calls Try.prog 30 #[.agg (sqC q v)] W fun e w' => e = .returned (.int .i64 (q.sent : Int)) ∧ Below W.heap.size W w') := fun W h => sent18 q v S W (rv_blw18 hv h) hs hl
  obtain ⟨Av, cv, rfl, -, -, hcv1, hcv2⟩ := rv_bytes.1 hv
  have hcv3 : cv ≤ 9223372036854775807 := by unfold maxLen at hcv2; omega
  have HD := Lib.hid (rv_lt hv)
  obtain ⟨hm1, hm2⟩ := hms
  clear hv hP hO hE hk
  obtain ⟨w1, hw1⟩ : ∃ w1, (w.alloc (.cells (sqC q (.slice Av q.data.length cv)) 28)).alloc (.cells (#[.int .u32 0, .slice none 0 0]) 46) = w1 := ⟨_, rfl⟩
  have HB : Hid (Below w.heap.size w w1) := by rw [← hw1]; exact ((Below.refl _ _).alloc (Nat.le_refl _) _).alloc (by simp) _
  have HX : Hid (w1.heap[w.heap.size]? = some (.cells (sqC q (.slice Av q.data.length cv)) 28 (0, 0))) := by rw [← hw1]; exact old_alloc (heap_alloc_new w _) _
  have HZ : Hid (w1.heap[w.heap.size + 1]? = some (.cells (#[.int .u32 0, .slice none 0 0]) 46 (0, 0))) := by rw [← hw1]; exact new_at1 w _ _
  have HS1 : Hid (w1.heap.size = w.heap.size + 2) := by show _ = _; rw [← hw1]; simp
  have HW := Lib.hid hw1
  clear hw1
  go_enter Try.func22, Try.ntmps22
  go_upto_region 1 with (fail)
  change Code.wp _ _ _ _ ((w.alloc (.cells (sqC q (.slice Av q.data.length cv)) 28)).alloc (.cells (#[.int .u32 0, .slice none 0 0]) 46))
  rw [HW.out]
  clear HW
  go_wp2_with (refine wpList_load_row rfl 28 _ rfl w.heap.size rfl 28 (sqC q (.slice Av q.data.length cv)) (0, 0) _ HX.out Try.underlying28 rfl (by kernel_rfl) ?_)
  refine (HSE.out w1 HB.out).mono ?_
  rintro e w2 ⟨rfl, hb2⟩
  have HX2 := Lib.hid (old_below HX.out hb2 (row_lt HX.out))
  have HZ2 := Lib.hid (old_below HZ.out hb2 (row_lt HZ.out))
  have HB2 := Lib.hid (HB.out.trans (hb2.mono HB.out.size))
  clear hb2 HX HZ HB
  go_upto_region 2 with (fail)
  rw [← HKK.out]
  obtain ⟨f, hf⟩ : ∃ f, q.fsent = f := ⟨_, rfl⟩
  obtain ⟨s, hs0⟩ : ∃ s, q.facked = s := ⟨_, rfl⟩
  have c1 : w2.cell? ⟨w.heap.size, 1, none⟩ = some (.slice Av q.data.length cv) := by rw [cell_of_row _ _ _ _ _ _ HX2.out]; rfl
  have c4 : w2.cell? ⟨w.heap.size, 4, none⟩ = some (.bool q.fsent) := by rw [cell_of_row _ _ _ _ _ _ HX2.out]; rfl
  have c5 : w2.cell? ⟨w.heap.size, 5, none⟩ = some (.bool q.facked) := by rw [cell_of_row _ _ _ _ _ _ HX2.out]; rfl
  rw [hf] at c4
  rw [hs0] at c5
  have HFS := Lib.hid (And.intro hf hs0)
  clear hf hs0
  (try go_frame)
  go_cut [8] (fun t8 wx => t8 = .bool E ∧ w2 = wx)
  case first =>
    by_cases hz : (k : Int) = q.data.length
    · have HD1 : Hid (decide (k = q.data.length) = true) := decide_eq_true (by omega)
      cases f <;> cases s
      all_goals
        go_wp2
        go_meet
        case rel => exact ⟨by rw [← HEE.out, HFS.out.1, HFS.out.2, HD1.out]; first | rfl | (simp [hz]), rfl⟩
    · have HD1 : Hid (decide (k = q.data.length) = false) := decide_eq_false (by omega)
      have hz1 : ((k : Int) == (q.data.length : Int)) = false := beq_eq_false_iff_ne.2 hz
      cases f <;> cases s
      all_goals
        go_wp2
        go_meet
        case rel => exact ⟨by rw [← HEE.out, HFS.out.1, HFS.out.2, HD1.out]; first | rfl | (simp [hz]), rfl⟩
  case rest =>
  obtain ⟨rfl, rfl⟩ := hcut
  clear c4 c5
  go_upto_region 3 with (fail)
  (try go_frame)
  go_cut [33] (fun t33 wx => t33 = .bool (!O) ∧ w2 = wx)
  case first =>
    by_cases hz : (k : Int) = 0
    · have HD1 : Hid (decide (k ≠ 0) = false) := decide_eq_false (by omega)
      obtain rfl : k = 0 := by omega
      cases E
      all_goals
        go_wp2
        go_meet
        case rel => exact ⟨by rw [← HOO.out, HD1.out]; rfl, rfl⟩
    · have HD1 : Hid (decide (k ≠ 0) = true) := decide_eq_true (by omega)
      have hz1 : ((k : Int) == 0) = false := beq_eq_false_iff_ne.2 hz
      cases E
      all_goals
        go_wp2
        go_meet
        case rel => exact ⟨by rw [← HOO.out, HD1.out]; rfl, rfl⟩
  case rest =>
  obtain ⟨rfl, rfl⟩ := hcut
  clear c1
  cases O
  · have HQ : Hid (P = spcD 0 [] ∧ E = false) := ⟨by rw [← HPP.out, if_neg (by decide)], (Bool.or_eq_false_iff.1 HOO.out).2⟩
    go_wp2_with (refine wpList_store_row rfl 46 _ _ rfl (w.heap.size + 1) (#[.int .u32 0, .slice none 0 0]) rfl rfl 46 (#[.int .u32 0, .slice none 0 0]) HZ2.out (by kernel_rfl) rfl (pco_ones rfl) ?_)
    (try simp only [Exit.inBlock, Exit.then])
    refine ret_three (g := w.heap.size + 1) rfl rfl (setRow_heap _ _ _ _ _ _ HZ2.out) Try.underlying46 rfl (by kernel_rfl) rfl ?_
    refine ⟨_, by rw [HQ.out.2]; rfl, ?_, below_setRow HB2.out (by omega) _⟩
    rw [HQ.out.1]
    exact rvs_cons.2 ⟨.val rfl, rvs_cons.2 ⟨byt_nil, rvs_nil⟩⟩
  have HQ : Hid (P = spcD q.una (q.data.take k)) := by show _ = _; rw [← HPP.out, if_pos rfl]
  obtain ⟨pb, hpb⟩ : ∃ pb, q.data.take k = pb := ⟨_, rfl⟩
  have HPL : Hid (pb.length ≤ 1000000) := by show _ ≤ _; rw [← hpb, List.length_take]; omega
  obtain ⟨At, hAt⟩ : ∃ At : Option Addr, (if cv = 0 then Av else Av.map (·.add (0 * 1))) = At := ⟨_, rfl⟩
  have hAt2 : At = Av := by
    rw [← hAt]
    split
    · rfl
    · cases Av
      · rfl
      · simp [Addr.add]
  have HPT : Hid (Rv w2 (fun b => S b ∧ b < w.heap.size) (.slice At k cv) (bytesD pb)) := by
    rw [hAt2, ← hpb]
    exact byt_take (HD.out.kept HB2.out (fun _ h => h.2)) k hkk rfl
  have HSLC : Hid (∀ W : World, (Instr.slice 26 (.slice Av q.data.length cv) none (some (.int .i64 (k : Int))) none).run Try.prog W = .ok (.slice At k cv) W) := fun W => by
    rw [← hAt]
    exact run_slice_h (P := Try.prog) 26 5 1 Try.underlying26 (by kernel_rfl) Av q.data.length cv k (by omega) W
  rw [hpb] at HQ
  have NX1 : Hid (w.heap.size ≠ w.heap.size + 1) := by show _ ≠ _; omega
  have HLX : Hid (∀ b, (S b ∧ b < w.heap.size) → ¬ b = w.heap.size + 1) := fun b hb e => by have := hb.2; omega
  have HS1 : Hid (¬ (fun b => w.heap.size + 2 ≤ b) (w.heap.size + 1)) := by show ¬ (w.heap.size + 2 ≤ w.heap.size + 1); omega
  have HBIG : Hid (∀ b, w2.heap.size ≤ b → w.heap.size + 2 ≤ b) := fun b hb => by have := row_lt HZ2.out; omega
  clear hpb hAt hAt2
  go_upto_region 5 with (fail)
  apply wp_region_relyQ (fun _ => true) (fun k => k = (w.heap.size + 1)) (RL [Is _, Is (.int .u32 q.una), Is _, Is (.slice Av q.data.length cv), Is _, Is (.slice At k cv), RdB18 (fun b => w.heap.size + 2 ≤ b) (bytesD pb), Rd1 (fun b => w.heap.size + 2 ≤ b) (spcD q.una pb), Is _, StoD (fun b => w.heap.size + 2 ≤ b) (w.heap.size + 1) (spcD q.una pb) 46, Is (.bool E), Is (.bool true)]) [false, false, false, false, false, true, true, false, false, false, false, false, false, false, false, false, false, false, false, false, false, false, false, false, false, false, false, false, false, false, false, false, false, false, false, true, true, true, true, true, true, true, true, true]
  · kernel_rfl
  · kernel_rfl
  · kernel_rfl
  · refine ⟨?_, ?_, ?_, ?_, ?_, ?_, ?_, ?_, ?_, ?_, ?_, ?_, trivial⟩
    · refine ⟨rfl, ?_⟩
      refine (if_pos (by decide)).mpr ?_
      intro ev w' hC hc hf hb hr K hK
      have e2 : ev (.tmp 2) = _ := hb 2 (by kernel_rfl)
      have HK := Lib.hid hK
      have HC := Lib.hid hC
      clear hb hr hK hC hf
      unfold Run
      simp [execOp, Upon, go_sem, *]
      exact HK.out _ _ (.inl (Below.refl _ _)) rfl
    · refine ⟨rfl, ?_⟩
      refine (if_pos (by decide)).mpr ?_
      intro ev w' hC hc hf hb hr K hK
      have e35 := hr 0 _ rfl (by kernel_rfl)
      change ev (.tmp 35) = _ at e35
      have HK := Lib.hid hK
      have HC := Lib.hid hC
      clear hb hr hK hC hf
      have q1 : ev (.tmp 35) = .pointer (some ⟨w.heap.size, 0, none⟩) := e35
      have hld := run_loadVar_cell (P := Try.prog) w' ⟨w.heap.size, 0, none⟩ 22 (.int .u32 q.una) _ ((cell_of_row _ _ _ _ _ _ (gro_old HC.out HX2.out (fun e => by exact NX1.out e))).trans rfl) Try.underlying22 rfl
      unfold Run
      rw [rely_load 22 _ rfl q1 hld]
      exact HK.out _ _ (.inl (Below.refl _ _)) rfl
    · refine ⟨rfl, ?_⟩
      refine (if_pos (by decide)).mpr ?_
      intro ev w' hC hc hf hb hr K hK
      have e2 : ev (.tmp 2) = _ := hb 2 (by kernel_rfl)
      have HK := Lib.hid hK
      have HC := Lib.hid hC
      clear hb hr hK hC hf
      unfold Run
      simp [execOp, Upon, go_sem, *]
      exact HK.out _ _ (.inl (Below.refl _ _)) rfl
    · refine ⟨rfl, ?_⟩
      refine (if_pos (by decide)).mpr ?_
      intro ev w' hC hc hf hb hr K hK
      have e37 := hr 2 _ rfl (by kernel_rfl)
      change ev (.tmp 37) = _ at e37
      have HK := Lib.hid hK
      have HC := Lib.hid hC
      clear hb hr hK hC hf
      have q1 : ev (.tmp 37) = .pointer (some ⟨w.heap.size, 1, none⟩) := e37
      have hld := run_loadVar_cell (P := Try.prog) w' ⟨w.heap.size, 1, none⟩ 26 (.slice Av q.data.length cv) _ ((cell_of_row _ _ _ _ _ _ (gro_old HC.out HX2.out (fun e => by exact NX1.out e))).trans rfl) Try.underlying26 rfl
      unfold Run
      rw [rely_load 26 _ rfl q1 hld]
      exact HK.out _ _ (.inl (Below.refl _ _)) rfl
    · refine ⟨rfl, ?_⟩
      refine (if_pos (by decide)).mpr ?_
      intro ev w' hC hc hf hb hr K hK
      have e7 : ev (.tmp 7) = _ := hb 7 (by kernel_rfl)
      have HK := Lib.hid hK
      have HC := Lib.hid hC
      clear hb hr hK hC hf
      unfold Run
      simp [execOp, Upon, go_sem, *]
      exact HK.out _ _ (.inl (Below.refl _ _)) rfl
    · refine ⟨rfl, ?_⟩
      refine (if_pos (by decide)).mpr ?_
      intro ev w' hC hc hf hb hr K hK
      have e38 := hr 3 _ rfl (by kernel_rfl)
      have e39 := hr 4 _ rfl (by kernel_rfl)
      change ev (.tmp 38) = _ at e38
      change ev (.tmp 39) = _ at e39
      have HK := Lib.hid hK
      have HC := Lib.hid hC
      clear hb hr hK hC hf
      have q38 : ev (.tmp 38) = .slice Av q.data.length cv := e38
      have hrun : (Instr.slice 26 (.slice Av q.data.length cv) none (some (ev (.tmp 39))) none).run Try.prog w' = .ok (.slice At k cv) w' := by rw [e39]; exact HSLC.out w'
      unfold Run
      rw [run_sliceE 26 _ none (some _) rfl Try.underlying26 q38 hrun]
      exact HK.out _ _ (.inl (Below.refl _ _)) rfl
    · refine ⟨rfl, ?_⟩
      refine (if_pos (by decide)).mpr ?_
      intro ev w' hC hc hf hb hr K hK
      have e40 := hr 5 _ rfl (by kernel_rfl)
      change ev (.tmp 40) = _ at e40
      have HK := Lib.hid hK
      have HC := Lib.hid hC
      clear hb hr hK hC
      have HCL := Lib.hid (bclone18 (.slice At k cv) pb _ w' (rv_gro18 HPT.out HC.out HLX.out) HPL.out)
      unfold Run
      simp [execOp, Upon, go_sem, *]
      refine HCL.out.mono ?_
      rintro e w9 ⟨v', rfl, ho, hb⟩
      exact ⟨_, rfl, HK.out _ _ (.inl hb) ⟨own_one ho, (own_rv ho).wide fun b hb2 => HBIG.out b (Nat.le_trans HC.out.size hb2)⟩⟩
    · refine ⟨rfl, ?_⟩
      refine (if_pos (by decide)).mpr ?_
      intro ev w' hC hc hf hb hr K hK
      have e36 := hr 1 _ rfl (by kernel_rfl)
      have e41 := hr 6 _ rfl (by kernel_rfl)
      change ev (.tmp 36) = _ at e36
      change (RdB18 (fun b => w.heap.size + 2 ≤ b) (bytesD pb) : Pred) (ev (.tmp 41)) _ at e41
      have HK := Lib.hid hK
      have HC := Lib.hid hC
      clear hb hr hK hC hf
      obtain ⟨h41, hr41⟩ := e41
      obtain ⟨A9, c9, q41, -⟩ := rv_bytes.1 hr41
      have HR9 := Lib.hid hr41
      rw [q41] at HR9
      clear h41 hr41
      unfold Run
      simp [execOp, Upon, go_sem, *]
      exact HK.out _ _ (.inl (Below.refl _ _)) ⟨_, rfl, rvs_cons.2 ⟨.val rfl, rvs_cons.2 ⟨HR9.out, rvs_nil⟩⟩⟩
    · refine ⟨rfl, ?_⟩
      refine (if_pos (by decide)).mpr ?_
      intro ev w' hC hc hf hb hr K hK
      have e8 : ev (.tmp 8) = _ := hb 8 (by kernel_rfl)
      have HK := Lib.hid hK
      have HC := Lib.hid hC
      clear hb hr hK hC hf
      unfold Run
      simp [execOp, Upon, go_sem, *]
      exact HK.out _ _ (.inl (Below.refl _ _)) rfl
    · refine ⟨rfl, ?_⟩
      refine (if_pos (by decide)).mpr ?_
      intro ev w' hC hc hf hb hr K hK
      have e4 : ev (.tmp 4) = _ := hb 4 (by kernel_rfl)
      have e42 := hr 7 _ rfl (by kernel_rfl)
      change (Rd1 (fun b => w.heap.size + 2 ≤ b) (spcD q.una pb) : Pred) (ev (.tmp 42)) _ at e42
      have HK := Lib.hid hK
      have HC := Lib.hid hC
      clear hb hr hK hC hf
      have qp : ev (.tmp 4) = .pointer (some ⟨(w.heap.size + 1), 0, none⟩) := e4
      obtain ⟨O9, hO9, hs9⟩ := HC.out.shape (w.heap.size + 1) _ _ _ HZ2.out
      obtain ⟨C9, hC9, hr9⟩ := e42
      have hn9 : C9.size = 2 := hr9.1
      have hs8 : O9.size = C9.size := by rw [hn9]; exact hs9
      have hst := run_storeVar_row (P := Try.prog) w' (w.heap.size + 1) 46 46 O9 C9 hO9 (by rw [hn9]; kernel_rfl) hs8 (Array.all_eq_true_iff_forall_mem.2 fun u hu => hr9.ones u (by simpa using hu))
      unfold Run
      rw [rely_store 46 _ _ rfl qp hC9 hst]
      refine HK.out _ _ (.inr ⟨groD_set (D := (fun k => k = (w.heap.size + 1))) (Gro.refl _) (rfl) hO9 hs8, fun j hj u hr => ?_⟩) (⟨C9, setRow_heap _ _ _ _ _ _ hO9, hr9.setRow HS1.out C9⟩)
      rcases j with _ | _ | _ | _ | _ | _ | _ | _ | _ | _ | _ | _ | j
      · exact hr
      · exact hr
      · exact hr
      · exact hr
      · exact hr
      · exact hr
      · exact ⟨hr.1, hr.2.setRow HS1.out _⟩
      · exact rd1_set hr HS1.out _
      · exact hr
      · exact absurd rfl hj
      · exact hr
      · exact hr
      · exact trivial
    · refine ⟨rfl, ?_⟩
      refine (if_pos (by decide)).mpr ?_
      intro ev w' hC hc hf hb hr K hK
      have e43 := hr 8 _ rfl (by kernel_rfl)
      change ev (.tmp 43) = _ at e43
      have HK := Lib.hid hK
      have HC := Lib.hid hC
      clear hb hr hK hC hf
      unfold Run
      simp [execOp, Upon, go_sem, *]
      exact HK.out _ _ (.inl (Below.refl _ _)) rfl
    · refine ⟨rfl, ?_⟩
      refine (if_pos (by decide)).mpr ?_
      intro ev w' hC hc hf hb hr K hK
      have HK := Lib.hid hK
      have HC := Lib.hid hC
      clear hb hr hK hC hf
      unfold Run
      simp [execOp, Upon, go_sem, *]
      exact HK.out _ _ (.inl (Below.refl _ _)) rfl
  · exact rl_mono ⟨is_mono _, is_mono _, is_mono _, is_mono _, is_mono _, is_mono _, rdb18_mono _ _, rd1_mono _ _, is_mono _, stod_mono _ _ _ _, is_mono _, is_mono _, trivial⟩
  intro us wr hG hH
  obtain ⟨-, -, -, -, -, -, -, -, -, h9, h10, h11, -⟩ := hH
  simp only [fillM]
  change us 5 = _ at h10
  rw [h10]
  clear h10
  change us 6 = _ at h11
  rw [h11]
  clear h11
  change (StoD (fun b => w.heap.size + 2 ≤ b) (w.heap.size + 1) (spcD q.una pb) 46 : Pred) undef wr at h9
  generalize us 35 = v35
  generalize us 36 = v36
  generalize us 37 = v37
  generalize us 38 = v38
  generalize us 39 = v39
  generalize us 40 = v40
  generalize us 41 = v41
  generalize us 42 = v42
  generalize us 43 = v43
  obtain ⟨C1, hv9, hr9⟩ := h9
  have HV1 := Lib.hid hv9
  have HR1 := Lib.hid hr9
  clear hv9 hr9
  go_wp2
  (try simp only [Exit.inBlock, Exit.then])
  have hn9 : C1.size = 2 := HR1.out.1
  refine ret_three (g := w.heap.size + 1) rfl rfl HV1.out Try.underlying46 rfl (by rw [hn9]; kernel_rfl) rfl ?_
  exact ⟨C1, rfl, by rw [HQ.out]; exact HR1.out, HB2.out.trans (hG.below (fun k hk => by omega) HB2.out.size)⟩
end Go.Proofs.Ytebflcpoecolbaa
