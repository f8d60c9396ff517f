/-
  The code's Next of layer 18. Every state that may be, every window and size.
-/
import Derived.Test.YtebflcpoecolbaaSck
import Derived.Test.YtebflcpoecolbaaScw
import Derived.Test.YtebflcpoecolbaaSto
import Derived.Test.YtebflcpoecolbaaTwe
import Derived.Test.YtebflcpoecolbaaRelyL
namespace Go.Proofs.Ytebflcpoecolbaa
open Go.RowKit

theorem ret_cctt18 {P : Program} {fn : Func} {R : Ending → World → Prop} {a : Act} {w : World} {p q u u2 : Tmp} {ty ty2 : TypeId} {g g2 : Nat} {cs ds : Array Value} {t t2 : TypeId} {fr fr2 : Nat × Nat} {d d2 : TypeDesc} (h : fn.results = #[.cell p ty, .cell q ty2, .tmp u, .tmp u2]) (hp : a.tmps.getD p undef = .pointer (some ⟨g, 0, none⟩)) (hq : a.tmps.getD q undef = .pointer (some ⟨g2, 0, none⟩))
    (hg : w.heap[g]? = some (.cells cs t fr)) (hu : P.underlying ty = some d) (hd : d.isRow = true) (hi : (P.info? ty).map (·.size) = some cs.size) (hg2 : w.heap[g2]? = some (.cells ds t2 fr2)) (hu2 : P.underlying ty2 = some d2) (hd2 : d2.isRow = true) (hi2 : (P.info? ty2).map (·.size) = some ds.size) (hdf : a.defers = []) (hR : R (.returned (.tuple #[.agg cs, .agg ds, a.tmps.getD u undef, a.tmps.getD u2 undef])) w) : bodyPost P fn R .ret a w := by
  refine bodyPost_ret (v := .tuple #[.agg cs, .agg ds, a.tmps.getD u undef, a.tmps.getD u2 undef]) ?_ hdf hR
  have hp' : a.tmps[p]?.getD undef = .pointer (some ⟨g, 0, none⟩) := by simpa using hp
  have hq' : a.tmps[q]?.getD undef = .pointer (some ⟨g2, 0, none⟩) := by simpa using hq
  simp [results, h, hp', hq', asAddr, run_loadVar_row w g t ty cs fr d hg hu (by cases d <;> first | rfl | cases hd) hi, run_loadVar_row w g2 t2 ty2 ds fr2 d2 hg2 hu2 (by cases d2 <;> first | rfl | cases hd2) hi2]
def PcO (B : Nat) (sa : Int) (l : List UInt8) : Pred := fun u w => ∃ vp, u = .agg #[.int .u32 sa, vp] ∧ w.ownsRow B 5 1 vp l.length (cells l)
theorem pco_mono (B : Nat) (sa : Int) (l : List UInt8) : Mono (PcO B sa l) := fun _ _ _ hb ⟨vp, e, h⟩ => ⟨vp, e, ownk_below h hb (Nat.le_refl _)⟩
theorem pco_ones {sa : Int} {vp : Value} (h : vp.oneCell' = true) : (#[.int .u32 sa, vp] : Array Value).all (·.oneCell') = true := Array.all_eq_true_iff_forall_mem.2 fun u hu => by
  simp only [List.mem_toArray, List.mem_cons, List.not_mem_nil, or_false] at hu
  rcases hu with rfl | rfl
  · rfl
  · exact h
def VarN18 (B : Nat) (t : TypeId) (Z : Array Value) : Pred := fun u w => ∃ g, u = .pointer (some ⟨g, 0, none⟩) ∧ B ≤ g ∧ w.heap[g]? = some (.cells Z t (0, 0))
theorem varn18_mono (B : Nat) (t : TypeId) (Z : Array Value) : Mono (VarN18 B t Z) := fun _ _ _ hb ⟨g, e, h1, h2⟩ => ⟨g, e, h1, old_below h2 hb (row_lt h2)⟩
theorem rv_gro18 {D S : Nat → Prop} {w w' : World} {v : Value} {d : Dat} (h : Rv w S v d) (hG : Gro D w w') (hS : ∀ b, S b → ¬ D b) : Rv w' S v d := (rvs_cons.1 (rvs_gro (rvs_cons.2 ⟨h, rvs_nil⟩) hG hS)).1
theorem byt_part18 {w : World} {S : Nat → Prop} {A : Option Addr} {c : Nat} {l : List UInt8} (h : Rv w S (.slice A l.length c) (bytesD l)) (a k : Nat) (ha : a + k ≤ l.length) : Rv w S (.slice (if c = a then A else A.map (·.add (a * 1))) k (c - a)) (bytesD ((l.drop a).take k)) := by
  have h1 := byt_drop18 h a (by omega)
  exact byt_take h1 k (by omega) List.length_drop
/-- how many bytes go next, whether it is the end, whether there is a piece -/
def nextQN (q : Sq) (window mss : Int) : Nat := (max 0 (min (min ((q.data.length : Int) - q.sent) mss) (max window 0 - q.sent))).toNat
def nextQE (q : Sq) (window mss : Int) : Bool := q.fin && !q.fsent && decide (q.sent + nextQN q window mss = q.data.length)
def nextQO (q : Sq) (window mss : Int) : Bool := decide (nextQN q window mss ≠ 0) || nextQE q window mss
def nextQ (q : Sq) (window mss : Int) : Sq := if nextQO q window mss = true then { q with sent := q.sent + nextQN q window mss, fsent := q.fsent || nextQE q window mss } else q
def nextQP (q : Sq) (window mss : Int) : List Dat := if nextQO q window mss = true then spcD (addS q.una q.sent) ((q.data.drop q.sent).take (nextQN q window mss)) else spcD 0 []
set_option maxRecDepth 100000 in
set_option maxHeartbeats 4000000 in
theorem next18 (q : Sq) (v : Value) (S : Nat → Prop) (window mss : Int) (w : World) (hv : Rv w S v (bytesD q.data)) (hs : q.sent ≤ q.data.length) (hl : q.data.length ≤ 256) (hwi : I64 window) (hms : I64 mss) : Calls Try.prog 21 #[.agg (sqC q v), .int .i64 window, .int .i64 mss] w fun e w' => ∃ (v' : Value) (ps : Array Value), e = .returned (.tuple #[.agg (sqC (nextQ q window mss) v'), .agg ps, .bool (nextQE q window mss), .bool (nextQO q window mss)]) ∧ Rv w' (fun b => w.heap.size + 3 ≤ b) v' (bytesD q.data) ∧ Rvs w' (fun b => w.heap.size + 3 ≤ b) ps.toList (nextQP q window mss) ∧ Below w.heap.size w w' := by
  obtain ⟨Q, hQ⟩ : ∃ Q, nextQ q window mss = Q := ⟨_, rfl⟩
  obtain ⟨P, hP⟩ : ∃ P, nextQP q window mss = P := ⟨_, rfl⟩
  obtain ⟨O, hO⟩ : ∃ O, nextQO q window mss = O := ⟨_, rfl⟩
  obtain ⟨E, hE⟩ : ∃ E, nextQE q window mss = E := ⟨_, rfl⟩
  obtain ⟨k, hk⟩ : ∃ k, nextQN q window mss = k := ⟨_, rfl⟩
  rw [hQ, hP, hO, hE]
  unfold nextQ at hQ
  unfold nextQP at hP
  rw [hO, hE, hk] at hQ
  rw [hO, hk] at hP
  unfold nextQO at hO
  rw [hE, hk] at hO
  unfold nextQE at hE
  rw [hk] at hE
  unfold nextQN at hk
  have HQP := Lib.hid (And.intro hQ hP)
  have HEE := Lib.hid hE
  have HOO := Lib.hid hO
  have HKK : Hid ((k : Int) = max 0 (min (min ((q.data.length : Int) - q.sent) mss) (max window 0 - q.sent)) ∧ q.sent + k ≤ q.data.length) := by show _ ∧ _; omega
  have HSE : Hid (∀ (W : World) (v1 : Value) (S1 : Nat → Prop), Rv W S1 v1 (bytesD q.data) → Calls Try.prog 30 #[.agg (sqC q v1)] W fun e w' => e = .returned (.int .i64 (q.sent : Int)) ∧ Below W.heap.size W w') := fun W v1 S1 h => sent18 q v1 S1 W h hs hl
  have HD := Lib.hid hv
  have HDL : Hid (q.data.length ≤ 1000000) := by show _ ≤ _; omega
  have hkk := HKK.out.2
  obtain ⟨hw1, hw2⟩ := hwi
  obtain ⟨hm1, hm2⟩ := hms
  clear hv hQ hP hO hE hk
  obtain ⟨w1, hw1⟩ : ∃ w1, ((w.alloc (.cells (sqC q v) 28)).alloc (.cells (Zsq) 28)).alloc (.cells (#[.int .u32 0, .slice none 0 0]) 46) = w1 := ⟨_, rfl⟩
  have HB : Hid (Below w.heap.size w w1) := by rw [← hw1]; exact (((Below.refl _ _).alloc (Nat.le_refl _) _).alloc (by simp) _).alloc (by simp; omega) _
  have HX : Hid (w1.heap[w.heap.size]? = some (.cells (sqC q v) 28 (0, 0))) := by rw [← hw1]; exact old_alloc (old_alloc (heap_alloc_new w _) _) _
  have HZ : Hid (w1.heap[w.heap.size + 1]? = some (.cells (Zsq) 28 (0, 0))) := by rw [← hw1]; exact old_alloc (new_at1 w _ _) _
  have HP : Hid (w1.heap[w.heap.size + 2]? = some (.cells (#[.int .u32 0, .slice none 0 0]) 46 (0, 0))) := by
    rw [← hw1]
    have h9 : ((w.alloc (.cells (sqC q v) 28)).alloc (.cells (Zsq) 28)).heap.size = w.heap.size + 2 := by simp
    rw [← h9]
    exact heap_alloc_new _ _
  have HS1 : Hid (w1.heap.size = w.heap.size + 3) := by show _ = _; rw [← hw1]; simp
  have HW := Lib.hid hw1
  clear hw1
  go_enter Try.func21, Try.ntmps21
  go_upto_region 1 with (fail)
  change Code.wp _ _ _ _ (((w.alloc (.cells (sqC q v) 28)).alloc (.cells (Zsq) 28)).alloc (.cells (#[.int .u32 0, .slice none 0 0]) 46))
  rw [HW.out]
  clear HW
  go_wp2_with (refine wpList_load_row rfl 28 _ rfl w.heap.size rfl 28 (sqC q v) (0, 0) _ HX.out Try.underlying28 rfl (by kernel_rfl) ?_)
  refine (clone18 q v S w1 (rv_blw18 HD.out HB.out) HDL.out).mono ?_
  rintro e w2 ⟨v1, rfl, hv, hb2⟩
  have HO2 : Hid (w2.ownsRow (w.heap.size + 3) 5 1 v1 q.data.length (cells q.data)) := ownk_base hv (by have := HS1.out; omega)
  have HONE : Hid (v1.oneCell' = true) := own_one hv
  have HX2 : Hid (w2.heap[w.heap.size]? = some (.cells (sqC q v) 28 (0, 0))) := old_below HX.out hb2 (row_lt HX.out)
  have HZ2 : Hid (w2.heap[w.heap.size + 1]? = some (.cells (Zsq) 28 (0, 0))) := old_below HZ.out hb2 (row_lt HZ.out)
  have HP2 : Hid (w2.heap[w.heap.size + 2]? = some (.cells (#[.int .u32 0, .slice none 0 0]) 46 (0, 0))) := old_below HP.out hb2 (row_lt HP.out)
  have HB2 := Lib.hid (HB.out.trans (hb2.mono HB.out.size))
  clear hv hb2 HX HB HZ HP
  go_upto_region 2 with (first | (refine wpList_store_row rfl 28 _ _ rfl w.heap.size (sqC q v1) rfl rfl 28 (sqC q v) HX2.out (by kernel_rfl) rfl (sqc_ones HONE.out) ?_; obtain ⟨w3, hw3⟩ : ∃ x, w2.setRow w.heap.size (sqC q v1) = x := ⟨_, rfl⟩; have HX3 : Hid (w3.heap[w.heap.size]? = some (.cells (sqC q v1) 28 (0, 0))) := (by rw [← hw3]; exact setRow_heap _ _ _ _ _ _ HX2.out); have HZ3 : Hid (w3.heap[w.heap.size + 1]? = some (.cells (Zsq) 28 (0, 0))) := (by rw [← hw3]; exact (setRow_other _ _ _ _ (by omega)).trans HZ2.out); have HP3 : Hid (w3.heap[w.heap.size + 2]? = some (.cells (#[.int .u32 0, .slice none 0 0]) 46 (0, 0))) := (by rw [← hw3]; exact (setRow_other _ _ _ _ (by omega)).trans HP2.out); have HO3 : Hid (w3.ownsRow (w.heap.size + 3) 5 1 (v1) (q.data.length) ((cells q.data))) := (by rw [← hw3]; exact own_set18 HO2.out HX2.out (by decide) _); have HB3 : Hid (Below w.heap.size w w3) := (by rw [← hw3]; exact below_setRow HB2.out (by omega) _); have HSZ3 : Hid (w3.heap.size = w2.heap.size) := (by show _ = _; rw [← hw3]; simp [World.setRow]); have HW3 := Lib.hid hw3; clear hw3; rw [HW3.out]; clear HW3 HX2 HZ2 HP2 HO2 HB2) | go_in)
  go_wp2_with (refine wpList_load_row rfl 28 _ rfl w.heap.size rfl 28 (sqC q v1) (0, 0) _ HX3.out Try.underlying28 rfl (by kernel_rfl) ?_)
  refine (HSE.out w3 v1 _ (own_rv HO3.out)).mono ?_
  rintro e w4 ⟨rfl, hb4⟩
  have HX4 := Lib.hid (old_below HX3.out hb4 (row_lt HX3.out))
  have HZ4 := Lib.hid (old_below HZ3.out hb4 (row_lt HZ3.out))
  have HP4 := Lib.hid (old_below HP3.out hb4 (row_lt HP3.out))
  have HO4 := Lib.hid (ownk_below HO3.out hb4 (Nat.le_refl _))
  have HB4 := Lib.hid (HB3.out.trans (hb4.mono HB3.out.size))
  clear hb4 HX3 HO3 HB3 HZ3 HP3
  obtain ⟨Av, cv, rfl, hcv1, hcv2, -⟩ := ownk_form HO4.out
  have hcv3 : cv ≤ 9223372036854775807 := by unfold maxLen at hcv2; omega
  have c1 : w4.cell? ⟨w.heap.size, 1, none⟩ = some (.slice Av q.data.length cv) := by rw [cell_of_row _ _ _ _ _ _ HX4.out]; rfl
  go_upto_region 3 with (fail)
  (try go_frame)
  go_cut [11] (fun t11 wx => t11 = .int .i64 (k : Int) ∧ w4 = wx)
  case first =>
    have hsb : IntKind.i64.wrap (max window 0 - (q.sent : Int)) = max window 0 - q.sent := IntWalk.i64_in _ ⟨by omega, by omega⟩
    have hsc : IntKind.i64.wrap ((q.data.length : Int) - (q.sent : Int)) = (q.data.length : Int) - q.sent := IntWalk.i64_in _ ⟨by omega, by omega⟩
    have hm3 : ∀ (W : World) (ts : Array TypeId) (t : TypeId), (Builtin.min_ ts t #[.int .i64 ((q.data.length : Int) - (q.sent : Int)), .int .i64 (mss), .int .i64 (max window 0 - (q.sent : Int))]).run Try.prog W = .ok (.int .i64 (min (min ((q.data.length : Int) - (q.sent : Int)) (mss)) (max window 0 - (q.sent : Int)))) W := fun W ts t => by
      have e1 : (if (mss) < ((q.data.length : Int) - (q.sent : Int)) then (mss) else ((q.data.length : Int) - (q.sent : Int))) = min ((q.data.length : Int) - (q.sent : Int)) (mss) := by
        rw [Int.min_def]
        split <;> split <;> omega
      have e2 : (if (max window 0 - (q.sent : Int)) < min ((q.data.length : Int) - (q.sent : Int)) (mss) then (max window 0 - (q.sent : Int)) else min ((q.data.length : Int) - (q.sent : Int)) (mss)) = min (min ((q.data.length : Int) - (q.sent : Int)) (mss)) (max window 0 - (q.sent : Int)) := by
        rw [Int.min_def (min ((q.data.length : Int) - (q.sent : Int)) (mss))]
        split <;> split <;> omega
      simp [Builtin.min_, Builtin.min2, e1, e2]
    go_wp2
    go_meet
    case rel => exact ⟨by congr 1; have := HKK.out.1; omega, rfl⟩
  case rest =>
  obtain ⟨rfl, rfl⟩ := hcut
  obtain ⟨f, hf⟩ : ∃ f, q.fin = f := ⟨_, rfl⟩
  obtain ⟨s, hs0⟩ : ∃ s, q.fsent = s := ⟨_, rfl⟩
  have c3 : w4.cell? ⟨w.heap.size, 3, none⟩ = some (.bool q.fin) := by rw [cell_of_row _ _ _ _ _ _ HX4.out]; rfl
  have c4 : w4.cell? ⟨w.heap.size, 4, none⟩ = some (.bool q.fsent) := by rw [cell_of_row _ _ _ _ _ _ HX4.out]; rfl
  rw [hf] at c3
  rw [hs0] at c4
  have HFS := Lib.hid (And.intro hf hs0)
  clear hf hs0
  go_upto_region 4 with (fail)
  (try go_frame)
  go_cut [12] (fun t12 wx => t12 = .bool E ∧ w4 = wx)
  case first =>
    by_cases hz : (q.sent : Int) + k = q.data.length
    · have HD1 : Hid (decide (q.sent + k = q.data.length) = true) := decide_eq_true (by omega)
      cases f <;> cases s
      all_goals
        go_wp2
        go_meet
        case rel => exact ⟨by rw [← HEE.out, HFS.out.1, HFS.out.2, HD1.out]; first | rfl | (simp [hz]), rfl⟩
    · have HD1 : Hid (decide (q.sent + k = q.data.length) = false) := decide_eq_false (by omega)
      have hz1 : (((q.sent : Int) + k) == (q.data.length : Int)) = false := beq_eq_false_iff_ne.2 hz
      cases f <;> cases s
      all_goals
        go_wp2
        go_meet
        case rel => exact ⟨by rw [← HEE.out, HFS.out.1, HFS.out.2, HD1.out]; first | rfl | (simp [hz]), rfl⟩
  case rest =>
  obtain ⟨rfl, rfl⟩ := hcut
  clear c3
  go_upto_region 5 with (fail)
  (try go_frame)
  go_cut [51] (fun t51 wx => t51 = .bool (!O) ∧ w4 = wx)
  case first =>
    by_cases hz : (k : Int) = 0
    · have HD1 : Hid (decide (k ≠ 0) = false) := decide_eq_false (by omega)
      obtain rfl : k = 0 := by omega
      cases E
      all_goals
        go_wp2
        go_meet
        case rel => exact ⟨by rw [← HOO.out, HD1.out]; rfl, rfl⟩
    · have HD1 : Hid (decide (k ≠ 0) = true) := decide_eq_true (by omega)
      have hz1 : ((k : Int) == 0) = false := beq_eq_false_iff_ne.2 hz
      cases E
      all_goals
        go_wp2
        go_meet
        case rel => exact ⟨by rw [← HOO.out, HD1.out]; rfl, rfl⟩
  case rest =>
  obtain ⟨rfl, rfl⟩ := hcut
  cases O
  · have HQ : Hid (Q = q ∧ P = spcD 0 [] ∧ E = false) := ⟨by rw [← HQP.out.1, if_neg (by decide)], by rw [← HQP.out.2, if_neg (by decide)], (Bool.or_eq_false_iff.1 HOO.out).2⟩
    clear c1 c4
    go_wp2_with (first | (refine wpList_load_row rfl 28 _ rfl w.heap.size rfl 28 (sqC q (.slice Av q.data.length cv)) (0, 0) _ HX4.out Try.underlying28 rfl (by kernel_rfl) ?_) | (refine wpList_store_row rfl 28 _ _ rfl (w.heap.size + 1) (sqC q (.slice Av q.data.length cv)) rfl rfl 28 (Zsq) HZ4.out (by kernel_rfl) rfl (sqc_ones rfl) ?_; obtain ⟨w5, hw5⟩ : ∃ x, w4.setRow (w.heap.size + 1) (sqC q (.slice Av q.data.length cv)) = x := ⟨_, rfl⟩; have HX5 : Hid (w5.heap[w.heap.size + 1]? = some (.cells (sqC q (.slice Av q.data.length cv)) 28 (0, 0))) := (by rw [← hw5]; exact setRow_heap _ _ _ _ _ _ HZ4.out); have HP5 : Hid (w5.heap[w.heap.size + 2]? = some (.cells (#[.int .u32 0, .slice none 0 0]) 46 (0, 0))) := (by rw [← hw5]; exact (setRow_other _ _ _ _ (by omega)).trans HP4.out); have HO5 : Hid (w5.ownsRow (w.heap.size + 3) 5 1 (.slice Av q.data.length cv) (q.data.length) ((cells q.data))) := (by rw [← hw5]; exact own_set18 HO4.out HZ4.out (by decide) _); have HB5 : Hid (Below w.heap.size w w5) := (by rw [← hw5]; exact below_setRow HB4.out (by omega) _); have HSZ5 : Hid (w5.heap.size = w4.heap.size) := (by show _ = _; rw [← hw5]; simp [World.setRow]); have HW5 := Lib.hid hw5; clear hw5; rw [HW5.out]; clear HW5 HZ4 HP4 HO4 HB4) | (refine wpList_store_row rfl 46 _ _ rfl (w.heap.size + 2) (#[.int .u32 0, .slice none 0 0]) rfl rfl 46 (#[.int .u32 0, .slice none 0 0]) HP5.out (by kernel_rfl) rfl (pco_ones rfl) ?_))
    (try simp only [Exit.inBlock, Exit.then])
    refine ret_cctt18 (g := w.heap.size + 1) (g2 := w.heap.size + 2) rfl rfl rfl ((setRow_other _ _ _ _ (by omega)).trans HX5.out) Try.underlying28 rfl (by kernel_rfl) (setRow_heap _ _ _ _ _ _ HP5.out) Try.underlying46 rfl (by kernel_rfl) rfl ?_
    refine ⟨_, _, by rw [HQ.out.1, HQ.out.2.2]; rfl, own_rv (own_set18 HO5.out HP5.out (by decide) _), ?_, below_setRow HB5.out (by omega) _⟩
    rw [HQ.out.2.1]
    exact rvs_cons.2 ⟨.val rfl, rvs_cons.2 ⟨byt_nil, rvs_nil⟩⟩
  have HQ : Hid (Q = { q with sent := q.sent + k, fsent := q.fsent || E } ∧ P = spcD (addS q.una q.sent) ((q.data.drop q.sent).take k)) := ⟨by rw [← HQP.out.1, if_pos rfl], by rw [← HQP.out.2, if_pos rfl]⟩
  obtain ⟨u, hu⟩ : ∃ u, q.sent + k = u := ⟨_, rfl⟩
  obtain ⟨sa, hsa⟩ : ∃ sa, addS q.una (q.sent : Int) = sa := ⟨_, rfl⟩
  obtain ⟨pb, hpb⟩ : ∃ pb, (q.data.drop q.sent).take k = pb := ⟨_, rfl⟩
  have HPL : Hid (pb.length ≤ 1000000) := by show _ ≤ _; rw [← hpb, List.length_take, List.length_drop]; omega
  have HPT0 := byt_part18 (own_rv HO4.out) q.sent k HKK.out.2
  have HSA : Hid (∀ W, Calls Try.prog 32 #[.int .u32 q.una, .int .i64 (q.sent : Int)] W fun e w' => e = .returned (.int .u32 sa) ∧ Below W.heap.size W w') := fun W => by
    rw [← hsa]
    exact (seqadd_any _ _ W).mono (by rintro e w' ⟨rfl, rfl⟩; exact ⟨rfl, Below.refl _ _⟩)
  have HSU : Hid (IntKind.i64.wrap ((q.sent : Int) + (k : Int)) = u) := by show _ = _; rw [← hu, IntWalk.i64_in _ ⟨by omega, by omega⟩]; omega
  obtain ⟨Ap, hAp⟩ : ∃ Ap : Option Addr, (if cv = q.sent then Av else Av.map (·.add (q.sent * 1))) = Ap := ⟨_, rfl⟩
  obtain ⟨cp, hcp⟩ : ∃ cp, cv - q.sent = cp := ⟨_, rfl⟩
  have HSLC : Hid (∀ W : World, (Instr.slice 26 (.slice Av q.data.length cv) (some (.int .i64 (q.sent : Int))) (some (.int .i64 (u : Int))) none).run Try.prog W = .ok (.slice Ap k cp) W) := fun W => by
    have h9 := run_slice_lh (P := Try.prog) 26 5 1 Try.underlying26 (by kernel_rfl) Av q.data.length cv q.sent u (by omega) (by omega) W
    rw [hAp, hcp, show u - q.sent = k by omega] at h9
    exact h9
  rw [hAp, hcp, hpb] at HPT0
  have HPT := Lib.hid HPT0
  rw [hu, hsa, hpb] at HQ
  have HUU : Hid (q.sent + k = u) := hu
  have hu2 : u ≤ 256 := by omega
  clear HPT0 hu hsa hpb hAp hcp c1
  go_upto_region 7 with (fail)
  apply wp_region_relyL [] (fun _ w' => Below w4.heap.size w4 w') (RL [Is _, Is (.int .u32 q.una), Is _, Is (.int .u32 sa), Is _, Is (.slice Av q.data.length cv), Is _, Is _, Is _, Is (.int .i64 (u : Int)), Is (.slice Ap k cp), OwnB18 w4.heap.size pb.length (cells pb), PcO w4.heap.size sa pb, VarN18 w4.heap.size 46 #[.int .u32 0, .slice none 0 0]]) [false, false, false, false, false, false, false, false, false, false, false, false, false, true, false, false, false, false, false, false, false, false, false, false, false, false, false, false, false, false, false, false, false, false, false, false, false, false, false, false, false, false, false, false, false, false, false, false, false, false, false, false, false, false, true, true, true, true, true, true, true, true, true, true, true, true, true, false, false, false, false, false, false, false, false, false, false, false, false, false] _ rfl
  · kernel_rfl
  · kernel_rfl
  · kernel_rfl
  · kernel_rfl
  · refine ⟨?_, ?_, ?_, ?_, ?_, ?_, ?_, ?_, ?_, ?_, ?_, ?_, ?_, ?_, trivial⟩
    · intro L ev w' hC hL hx K hK
      have e3 : ev (.tmp 3) = _ := hx.base 3 (by kernel_rfl)
      have HK := Lib.hid hK
      have HC := Lib.hid hC
      have HL := Lib.hid hL
      have HX6 := Lib.hid hx
      have hc := hx.cst
      skip
      clear hx hK hC hL
      unfold Run
      simp [execOp, Upon, go_sem, *]
      exact HK.out _ _ (.inl ⟨Below.refl _ _, by decide⟩) rfl
    · intro L ev w' hC hL hx K hK
      have e54 := hx.held 0 _ rfl (by kernel_rfl)
      change ev (.tmp 54) = _ at e54
      have HK := Lib.hid hK
      have HC := Lib.hid hC
      have HL := Lib.hid hL
      have HX6 := Lib.hid hx
      have hc := hx.cst
      skip
      clear hx hK hC hL
      have c9 := cell_of_row _ _ 0 _ _ _ (old_below HX4.out HC.out (row_lt HX4.out))
      rw [show (sqC q (.slice Av q.data.length cv))[0]? = some (.int .u32 q.una) from rfl] at c9
      unfold Run
      simp [execOp, Upon, go_sem, *]
      exact HK.out _ _ (.inl ⟨Below.refl _ _, by decide⟩) rfl
    · intro L ev w' hC hL hx K hK
      have e10 : ev (.tmp 10) = _ := hx.base 10 (by kernel_rfl)
      have HK := Lib.hid hK
      have HC := Lib.hid hC
      have HL := Lib.hid hL
      have HX6 := Lib.hid hx
      have hc := hx.cst
      skip
      clear hx hK hC hL
      unfold Run
      simp [execOp, Upon, go_sem, *]
      exact HK.out _ _ (.inl ⟨Below.refl _ _, by decide⟩) rfl
    · intro L ev w' hC hL hx K hK
      have e55 := hx.held 1 _ rfl (by kernel_rfl)
      have e56 := hx.held 2 _ rfl (by kernel_rfl)
      change ev (.tmp 55) = _ at e55
      change ev (.tmp 56) = _ at e56
      have HK := Lib.hid hK
      have HC := Lib.hid hC
      have HL := Lib.hid hL
      have HX6 := Lib.hid hx
      have hc := hx.cst
      have hf := hx.fn
      clear hx hK hC hL
      have HCL := Lib.hid (HSA.out w')
      unfold Run
      simp [execOp, Upon, go_sem, *]
      refine HCL.out.mono ?_
      rintro e w2 ⟨rfl, hb⟩
      exact ⟨_, rfl, HK.out _ _ (.inl ⟨hb, by decide⟩) rfl⟩
    · intro L ev w' hC hL hx K hK
      have e3 : ev (.tmp 3) = _ := hx.base 3 (by kernel_rfl)
      have HK := Lib.hid hK
      have HC := Lib.hid hC
      have HL := Lib.hid hL
      have HX6 := Lib.hid hx
      have hc := hx.cst
      skip
      clear hx hK hC hL
      unfold Run
      simp [execOp, Upon, go_sem, *]
      exact HK.out _ _ (.inl ⟨Below.refl _ _, by decide⟩) rfl
    · intro L ev w' hC hL hx K hK
      have e58 := hx.held 4 _ rfl (by kernel_rfl)
      change ev (.tmp 58) = _ at e58
      have HK := Lib.hid hK
      have HC := Lib.hid hC
      have HL := Lib.hid hL
      have HX6 := Lib.hid hx
      have hc := hx.cst
      skip
      clear hx hK hC hL
      have c9 := cell_of_row _ _ 1 _ _ _ (old_below HX4.out HC.out (row_lt HX4.out))
      rw [show (sqC q (.slice Av q.data.length cv))[1]? = some (.slice Av q.data.length cv) from rfl] at c9
      unfold Run
      simp [execOp, Upon, go_sem, *]
      exact HK.out _ _ (.inl ⟨Below.refl _ _, by decide⟩) rfl
    · intro L ev w' hC hL hx K hK
      have e10 : ev (.tmp 10) = _ := hx.base 10 (by kernel_rfl)
      have HK := Lib.hid hK
      have HC := Lib.hid hC
      have HL := Lib.hid hL
      have HX6 := Lib.hid hx
      have hc := hx.cst
      skip
      clear hx hK hC hL
      unfold Run
      simp [execOp, Upon, go_sem, *]
      exact HK.out _ _ (.inl ⟨Below.refl _ _, by decide⟩) rfl
    · intro L ev w' hC hL hx K hK
      have e10 : ev (.tmp 10) = _ := hx.base 10 (by kernel_rfl)
      have HK := Lib.hid hK
      have HC := Lib.hid hC
      have HL := Lib.hid hL
      have HX6 := Lib.hid hx
      have hc := hx.cst
      skip
      clear hx hK hC hL
      unfold Run
      simp [execOp, Upon, go_sem, *]
      exact HK.out _ _ (.inl ⟨Below.refl _ _, by decide⟩) rfl
    · intro L ev w' hC hL hx K hK
      have e11 : ev (.tmp 11) = _ := hx.base 11 (by kernel_rfl)
      have HK := Lib.hid hK
      have HC := Lib.hid hC
      have HL := Lib.hid hL
      have HX6 := Lib.hid hx
      have hc := hx.cst
      skip
      clear hx hK hC hL
      unfold Run
      simp [execOp, Upon, go_sem, *]
      exact HK.out _ _ (.inl ⟨Below.refl _ _, by decide⟩) rfl
    · intro L ev w' hC hL hx K hK
      have e61 := hx.held 7 _ rfl (by kernel_rfl)
      have e62 := hx.held 8 _ rfl (by kernel_rfl)
      change ev (.tmp 61) = _ at e61
      change ev (.tmp 62) = _ at e62
      have HK := Lib.hid hK
      have HC := Lib.hid hC
      have HL := Lib.hid hL
      have HX6 := Lib.hid hx
      have hc := hx.cst
      skip
      clear hx hK hC hL
      have hsu := HSU.out
      unfold Run
      simp [execOp, Upon, go_sem, *]
      exact HK.out _ _ (.inl ⟨Below.refl _ _, by decide⟩) rfl
    · intro L ev w' hC hL hx K hK
      have e59 := hx.held 5 _ rfl (by kernel_rfl)
      have e60 := hx.held 6 _ rfl (by kernel_rfl)
      have e63 := hx.held 9 _ rfl (by kernel_rfl)
      change ev (.tmp 59) = _ at e59
      change ev (.tmp 60) = _ at e60
      change ev (.tmp 63) = _ at e63
      have HK := Lib.hid hK
      have HC := Lib.hid hC
      have HL := Lib.hid hL
      have HX6 := Lib.hid hx
      have hc := hx.cst
      skip
      clear hx hK hC hL
      have q59 : ev (.tmp 59) = .slice Av q.data.length cv := e59
      have hrun : (Instr.slice 26 (.slice Av q.data.length cv) (some (ev (.tmp 60))) (some (ev (.tmp 63))) none).run Try.prog w' = .ok (.slice Ap k cp) w' := by rw [e60, e63]; exact HSLC.out w'
      unfold Run
      rw [run_sliceE 26 _ (some _) (some _) rfl Try.underlying26 q59 hrun]
      exact HK.out _ _ (.inl ⟨Below.refl _ _, by decide⟩) rfl
    · intro L ev w' hC hL hx K hK
      have e64 := hx.held 10 _ rfl (by kernel_rfl)
      change ev (.tmp 64) = _ at e64
      have HK := Lib.hid hK
      have HC := Lib.hid hC
      have HL := Lib.hid hL
      have HX6 := Lib.hid hx
      have hc := hx.cst
      have hf := hx.fn
      clear hx hK hC hL
      have HCL := Lib.hid (bclone18 (.slice Ap k cp) pb _ w' (rv_blw18 HPT.out HC.out) HPL.out)
      unfold Run
      simp [execOp, Upon, go_sem, *]
      refine HCL.out.mono ?_
      rintro e w2 ⟨v', rfl, ho, hb⟩
      exact ⟨_, rfl, HK.out _ _ (.inl ⟨hb, by decide⟩) (ownk_base ho HC.out.size)⟩
    · intro L ev w' hC hL hx K hK
      have e57 := hx.held 3 _ rfl (by kernel_rfl)
      have e65 := hx.held 11 _ rfl (by kernel_rfl)
      change ev (.tmp 57) = _ at e57
      change (OwnB18 w4.heap.size pb.length (cells pb) : Pred) (ev (.tmp 65)) w' at e65
      have HK := Lib.hid hK
      have HC := Lib.hid hC
      have HL := Lib.hid hL
      have HX6 := Lib.hid hx
      have hc := hx.cst
      skip
      clear hx hK hC hL
      have HO9 : Hid (w'.ownsRow w4.heap.size 5 1 (ev (.tmp 65)) pb.length (cells pb)) := e65
      obtain ⟨A9, c9, q65, -⟩ := ownk_form HO9.out
      rw [q65] at HO9
      clear e65
      unfold Run
      simp [execOp, Upon, go_sem, *]
      exact HK.out _ _ (.inl ⟨Below.refl _ _, by decide⟩) ⟨_, rfl, HO9.out⟩
    · intro L ev w' hC hL hx K hK
      have HK := Lib.hid hK
      have HC := Lib.hid hC
      have HL := Lib.hid hL
      have HX6 := Lib.hid hx
      have hc := hx.cst
      skip
      clear hx hK hC hL
      have hsz := HC.out.size
      unfold Run
      simp [execOp, Upon, go_sem, *]
      exact HK.out _ _ (.inl ⟨(Below.refl _ _).alloc (Nat.le_refl _) _, by decide⟩) ⟨_, rfl, hsz, heap_alloc_new w' _⟩
  · exact rl_mono ⟨is_mono _, is_mono _, is_mono _, is_mono _, is_mono _, is_mono _, is_mono _, is_mono _, is_mono _, is_mono _, is_mono _, ownb18_mono _ _ _, pco_mono _ _ _, varn18_mono _ _ _, trivial⟩
  · exact fun _ _ _ _ h => h
  · exact fun _ w1 w2 hb h => h.trans (hb.mono h.size)
  · exact Below.refl _ _
  · simp
  intro us wr hG hH
  obtain ⟨-, -, -, -, -, -, -, -, -, -, -, -, h12, h13, -⟩ := hH
  simp only [fillM]
  change (PcO w4.heap.size sa pb : Pred) (us 66) wr at h12
  change (VarN18 w4.heap.size 46 #[.int .u32 0, .slice none 0 0] : Pred) (us 13) wr at h13
  generalize us 54 = v54
  generalize us 55 = v55
  generalize us 56 = v56
  generalize us 57 = v57
  generalize us 58 = v58
  generalize us 59 = v59
  generalize us 60 = v60
  generalize us 61 = v61
  generalize us 62 = v62
  generalize us 63 = v63
  generalize us 64 = v64
  generalize us 65 = v65
  generalize us 66 = v66 at h12 ⊢
  generalize us 13 = v13 at h13 ⊢
  obtain ⟨vp, rfl, ho⟩ := h12
  obtain ⟨gp, rfl, hgB, hgz⟩ := h13
  have HGP : Hid (w.heap.size + 3 ≤ gp) := by have := row_lt HP4.out; show _ ≤ _; omega
  have HN6 := Lib.hid hgz
  have HQ6 := Lib.hid ho
  have HX6 := Lib.hid (old_below HX4.out hG (row_lt HX4.out))
  have HZ6 := Lib.hid (old_below HZ4.out hG (row_lt HZ4.out))
  have HP6 := Lib.hid (old_below HP4.out hG (row_lt HP4.out))
  have HO6 := Lib.hid (ownk_below HO4.out hG (Nat.le_refl _))
  have HB6 := Lib.hid (HB4.out.trans (hG.mono HB4.out.size))
  have HVP : Hid (vp.oneCell' = true) := own_one ho
  have HW4 : Hid (w.heap.size + 3 ≤ w4.heap.size) := by have := row_lt HP4.out; show _ ≤ _; omega
  clear hgB hgz ho hG HX4 HZ4 HP4 HO4 HB4 HPT
  refine wp_store_row 46 (.tmp 13) (.tmp 66) rfl gp (#[.int .u32 sa, vp]) rfl rfl 46 (#[.int .u32 0, .slice none 0 0]) HN6.out (by kernel_rfl) rfl (pco_ones HVP.out) ?_
  simp only [Act.put]
  obtain ⟨w7, hw7⟩ : ∃ x, wr.setRow gp (#[.int .u32 sa, vp]) = x := ⟨_, rfl⟩
  have HN7 : Hid (w7.heap[gp]? = some (.cells (#[.int .u32 sa, vp]) 46 (0, 0))) := by rw [← hw7]; exact setRow_heap _ _ _ _ _ _ HN6.out
  have HX7 : Hid (w7.heap[w.heap.size]? = some (.cells (sqC q (.slice Av q.data.length cv)) 28 (0, 0))) := by rw [← hw7]; exact (setRow_other _ _ _ _ (by have := HGP.out; omega)).trans HX6.out
  have HZ7 : Hid (w7.heap[w.heap.size + 1]? = some (.cells Zsq 28 (0, 0))) := by rw [← hw7]; exact (setRow_other _ _ _ _ (by have := HGP.out; omega)).trans HZ6.out
  have HP7 : Hid (w7.heap[w.heap.size + 2]? = some (.cells (#[.int .u32 0, .slice none 0 0]) 46 (0, 0))) := by rw [← hw7]; exact (setRow_other _ _ _ _ (by have := HGP.out; omega)).trans HP6.out
  have HO7 : Hid (w7.ownsRow (w.heap.size + 3) 5 1 (.slice Av q.data.length cv) q.data.length (cells q.data)) := by rw [← hw7]; exact own_set18 HO6.out HN6.out (by decide) _
  have HQ7 : Hid (w7.ownsRow w4.heap.size 5 1 vp pb.length (cells pb)) := by rw [← hw7]; exact own_set18 HQ6.out HN6.out (by decide) _
  have HB7 : Hid (Below w.heap.size w w7) := by rw [← hw7]; exact below_setRow HB6.out (by have := HGP.out; omega) _
  have HW7 := Lib.hid hw7
  clear hw7
  rw [HW7.out]
  clear HW7 HN6 HX6 HZ6 HP6 HO6 HQ6 HB6
  have hsu := HSU.out
  go_upto_region 9 with (first | (refine wpList_store_fld rfl 3 _ _ rfl w.heap.size 2 rfl (.int .i64 (u : Int)) rfl 28 (sqC q (.slice Av q.data.length cv)) HX7.out (by show 2 < 6; omega) (by kernel_rfl) (rfl) (sqC { q with sent := u } (.slice Av q.data.length cv)) rfl ?_; obtain ⟨w8, hw8⟩ : ∃ x, w7.setRow w.heap.size (sqC { q with sent := u } (.slice Av q.data.length cv)) = x := ⟨_, rfl⟩; have HX8 : Hid (w8.heap[w.heap.size]? = some (.cells (sqC { q with sent := u } (.slice Av q.data.length cv)) 28 (0, 0))) := (by rw [← hw8]; exact setRow_heap _ _ _ _ _ _ HX7.out); have HZ8 : Hid (w8.heap[w.heap.size + 1]? = some (.cells (Zsq) 28 (0, 0))) := (by rw [← hw8]; exact (setRow_other _ _ _ _ (by omega)).trans HZ7.out); have HP8 : Hid (w8.heap[w.heap.size + 2]? = some (.cells (#[.int .u32 0, .slice none 0 0]) 46 (0, 0))) := (by rw [← hw8]; exact (setRow_other _ _ _ _ (by omega)).trans HP7.out); have HN8 : Hid (w8.heap[gp]? = some (.cells (#[.int .u32 sa, vp]) 46 (0, 0))) := (by rw [← hw8]; exact (setRow_other _ _ _ _ (by have := HGP.out; omega)).trans HN7.out); have HO8 : Hid (w8.ownsRow (w.heap.size + 3) 5 1 (.slice Av q.data.length cv) (q.data.length) ((cells q.data))) := (by rw [← hw8]; exact own_set18 HO7.out HX7.out (by decide) _); have HQ8 : Hid (w8.ownsRow w4.heap.size 5 1 (vp) (pb.length) ((cells pb))) := (by rw [← hw8]; exact own_set18 HQ7.out HX7.out (by decide) _); have HB8 : Hid (Below w.heap.size w w8) := (by rw [← hw8]; exact below_setRow HB7.out (by omega) _); have HSZ8 : Hid (w8.heap.size = w7.heap.size) := (by show _ = _; rw [← hw8]; simp [World.setRow]); have HW8 := Lib.hid hw8; clear hw8; rw [HW8.out]; clear HW8 HX7 HZ7 HP7 HN7 HO7 HQ7 HB7) | go_in)
  clear hsu
  have c4 : w8.cell? ⟨w.heap.size, 4, none⟩ = some (.bool q.fsent) := by rw [cell_of_row _ _ _ _ _ _ HX8.out]; rfl
  rw [HFS.out.2] at c4
  obtain ⟨FS, hFS⟩ : ∃ FS, (s || E) = FS := ⟨_, rfl⟩
  have HF2 : Hid ((s || E) = FS) := hFS
  clear hFS
  cases s
  · obtain rfl : E = FS := HF2.out
    go_upto_region 10 with (first | (refine wpList_store_fld rfl 4 _ _ rfl w.heap.size 4 rfl (.bool E) rfl 28 (sqC { q with sent := u } (.slice Av q.data.length cv)) HX8.out (by show 4 < 6; omega) (by kernel_rfl) (rfl) (sqC { q with sent := u, fsent := E } (.slice Av q.data.length cv)) rfl ?_; obtain ⟨w9, hw9⟩ : ∃ x, w8.setRow w.heap.size (sqC { q with sent := u, fsent := E } (.slice Av q.data.length cv)) = x := ⟨_, rfl⟩; have HX9 : Hid (w9.heap[w.heap.size]? = some (.cells (sqC { q with sent := u, fsent := E } (.slice Av q.data.length cv)) 28 (0, 0))) := (by rw [← hw9]; exact setRow_heap _ _ _ _ _ _ HX8.out); have HZ9 : Hid (w9.heap[w.heap.size + 1]? = some (.cells (Zsq) 28 (0, 0))) := (by rw [← hw9]; exact (setRow_other _ _ _ _ (by omega)).trans HZ8.out); have HP9 : Hid (w9.heap[w.heap.size + 2]? = some (.cells (#[.int .u32 0, .slice none 0 0]) 46 (0, 0))) := (by rw [← hw9]; exact (setRow_other _ _ _ _ (by omega)).trans HP8.out); have HN9 : Hid (w9.heap[gp]? = some (.cells (#[.int .u32 sa, vp]) 46 (0, 0))) := (by rw [← hw9]; exact (setRow_other _ _ _ _ (by have := HGP.out; omega)).trans HN8.out); have HO9 : Hid (w9.ownsRow (w.heap.size + 3) 5 1 (.slice Av q.data.length cv) (q.data.length) ((cells q.data))) := (by rw [← hw9]; exact own_set18 HO8.out HX8.out (by decide) _); have HQ9 : Hid (w9.ownsRow w4.heap.size 5 1 (vp) (pb.length) ((cells pb))) := (by rw [← hw9]; exact own_set18 HQ8.out HX8.out (by decide) _); have HB9 : Hid (Below w.heap.size w w9) := (by rw [← hw9]; exact below_setRow HB8.out (by omega) _); have HSZ9 : Hid (w9.heap.size = w8.heap.size) := (by show _ = _; rw [← hw9]; simp [World.setRow]); have HW9 := Lib.hid hw9; clear hw9; rw [HW9.out]; clear HW9 HX8 HZ8 HP8 HN8 HO8 HQ8 HB8) | go_in)
    clear c4
    have NE12 : Hid (w.heap.size + 1 ≠ w.heap.size + 2) := (by show _ ≠ _; omega)
    have NX1 : Hid (w.heap.size ≠ w.heap.size + 1) := (by show _ ≠ _; omega)
    have NX2 : Hid (w.heap.size ≠ w.heap.size + 2) := (by show _ ≠ _; omega)
    have NP1 : Hid (gp ≠ w.heap.size + 1) := (by have := HGP.out; show _ ≠ _; omega)
    have NP2 : Hid (gp ≠ w.heap.size + 2) := (by have := HGP.out; show _ ≠ _; omega)
    apply wp_region_relyQ (fun _ => true) (fun k => k = (w.heap.size + 1) ∨ k = (w.heap.size + 2)) (RL [Is (.agg (sqC { q with sent := u, fsent := E } (.slice Av q.data.length cv))), Is (.agg (#[.int .u32 sa, vp] : Array Value)), Is _, Sto (w.heap.size + 1) (sqC { q with sent := u, fsent := E } (.slice Av q.data.length cv)) 28, Sto (w.heap.size + 2) (#[.int .u32 sa, vp] : Array Value) 46, Is (.bool E), Is (.bool true)]) [false, false, false, false, false, false, false, false, true, true, false, false, false, false, false, false, false, false, false, false, false, false, false, false, false, false, false, false, false, false, false, false, false, false, false, false, false, false, false, false, false, false, false, false, false, false, false, false, false, false, false, false, false, false, false, false, false, false, false, false, false, false, false, false, false, false, false, false, false, false, false, false, false, false, false, false, false, true, true, true]
    · kernel_rfl
    · kernel_rfl
    · kernel_rfl
    · refine ⟨?_, ?_, ?_, ?_, ?_, ?_, ?_, trivial⟩
      · refine ⟨rfl, ?_⟩
        refine (if_pos (by decide)).mpr ?_
        intro ev w' hC hc hf hb hr K hK
        have e3 : ev (.tmp 3) = _ := hb 3 (by kernel_rfl)
        have HK := Lib.hid hK
        have HC := Lib.hid hC
        clear hb hr hK hC hf
        have q1 : ev (.tmp 3) = .pointer (some ⟨w.heap.size, 0, none⟩) := e3
        have hld := run_loadVar_row (P := Try.prog) w' w.heap.size 28 28 (sqC { q with sent := u, fsent := E } (.slice Av q.data.length cv)) (0, 0) _ (gro_old HC.out HX9.out (fun e => by rcases e with e | e; exact NX1.out e; exact NX2.out e)) Try.underlying28 rfl (by kernel_rfl)
        unfold Run
        rw [rely_load 28 _ rfl q1 hld]
        exact HK.out _ _ (.inl (Below.refl _ _)) rfl
      · refine ⟨rfl, ?_⟩
        refine (if_pos (by decide)).mpr ?_
        intro ev w' hC hc hf hb hr K hK
        have e13 : ev (.tmp 13) = _ := hb 13 (by kernel_rfl)
        have HK := Lib.hid hK
        have HC := Lib.hid hC
        clear hb hr hK hC hf
        have q1 : ev (.tmp 13) = .pointer (some ⟨gp, 0, none⟩) := e13
        have hld := run_loadVar_row (P := Try.prog) w' gp 46 46 (#[.int .u32 sa, vp] : Array Value) (0, 0) _ (gro_old HC.out HN9.out (fun e => by rcases e with e | e; exact NP1.out e; exact NP2.out e)) Try.underlying46 rfl (by kernel_rfl)
        unfold Run
        rw [rely_load 46 _ rfl q1 hld]
        exact HK.out _ _ (.inl (Below.refl _ _)) rfl
      · refine ⟨rfl, ?_⟩
        refine (if_pos (by decide)).mpr ?_
        intro ev w' hC hc hf hb hr K hK
        have e12 : ev (.tmp 12) = _ := hb 12 (by kernel_rfl)
        have HK := Lib.hid hK
        have HC := Lib.hid hC
        clear hb hr hK hC hf
        unfold Run
        simp [execOp, Upon, go_sem, *]
        exact HK.out _ _ (.inl (Below.refl _ _)) rfl
      · refine ⟨rfl, ?_⟩
        refine (if_pos (by decide)).mpr ?_
        intro ev w' hC hc hf hb hr K hK
        have e6 : ev (.tmp 6) = _ := hb 6 (by kernel_rfl)
        have e77 := hr 0 _ rfl (by kernel_rfl)
        change ev (.tmp 77) = _ at e77
        have HK := Lib.hid hK
        have HC := Lib.hid hC
        clear hb hr hK hC hf
        have qp : ev (.tmp 6) = .pointer (some ⟨(w.heap.size + 1), 0, none⟩) := e6
        obtain ⟨O9, hO9, hs9⟩ := HC.out.shape (w.heap.size + 1) _ _ _ HZ9.out
        have qv : ev (.tmp 77) = .agg (sqC { q with sent := u, fsent := E } (.slice Av q.data.length cv)) := e77
        have hs8 : O9.size = ((sqC { q with sent := u, fsent := E } (.slice Av q.data.length cv)) : Array Value).size := by rw [hs9]; rfl
        have hst := run_storeVar_row (P := Try.prog) w' (w.heap.size + 1) 28 28 O9 (sqC { q with sent := u, fsent := E } (.slice Av q.data.length cv)) hO9 (by kernel_rfl) hs8 (sqc_ones rfl)
        unfold Run
        rw [rely_store 28 _ _ rfl qp qv hst]
        refine HK.out _ _ (.inr ⟨groD_set (D := (fun k => k = (w.heap.size + 1) ∨ k = (w.heap.size + 2))) (Gro.refl _) (.inl rfl) hO9 hs8, fun j hj u hr => ?_⟩) (setRow_heap _ _ _ _ _ _ hO9)
        rcases j with _ | _ | _ | _ | _ | _ | _ | j
        · exact hr
        · exact hr
        · exact hr
        · exact absurd rfl hj
        · exact sto_set (u := u) hr (Ne.symm NE12.out)
        · exact hr
        · exact hr
        · exact trivial
      · refine ⟨rfl, ?_⟩
        refine (if_pos (by decide)).mpr ?_
        intro ev w' hC hc hf hb hr K hK
        have e7 : ev (.tmp 7) = _ := hb 7 (by kernel_rfl)
        have e78 := hr 1 _ rfl (by kernel_rfl)
        change ev (.tmp 78) = _ at e78
        have HK := Lib.hid hK
        have HC := Lib.hid hC
        clear hb hr hK hC hf
        have qp : ev (.tmp 7) = .pointer (some ⟨(w.heap.size + 2), 0, none⟩) := e7
        obtain ⟨O9, hO9, hs9⟩ := HC.out.shape (w.heap.size + 2) _ _ _ HP9.out
        have qv : ev (.tmp 78) = .agg (#[.int .u32 sa, vp] : Array Value) := e78
        have hs8 : O9.size = ((#[.int .u32 sa, vp] : Array Value) : Array Value).size := by rw [hs9]; rfl
        have hst := run_storeVar_row (P := Try.prog) w' (w.heap.size + 2) 46 46 O9 (#[.int .u32 sa, vp] : Array Value) hO9 (by kernel_rfl) hs8 (pco_ones HVP.out)
        unfold Run
        rw [rely_store 46 _ _ rfl qp qv hst]
        refine HK.out _ _ (.inr ⟨groD_set (D := (fun k => k = (w.heap.size + 1) ∨ k = (w.heap.size + 2))) (Gro.refl _) (.inr (rfl)) hO9 hs8, fun j hj u hr => ?_⟩) (setRow_heap _ _ _ _ _ _ hO9)
        rcases j with _ | _ | _ | _ | _ | _ | _ | j
        · exact hr
        · exact hr
        · exact hr
        · exact sto_set (u := u) hr NE12.out
        · exact absurd rfl hj
        · exact hr
        · exact hr
        · exact trivial
      · refine ⟨rfl, ?_⟩
        refine (if_pos (by decide)).mpr ?_
        intro ev w' hC hc hf hb hr K hK
        have e79 := hr 2 _ rfl (by kernel_rfl)
        change ev (.tmp 79) = _ at e79
        have HK := Lib.hid hK
        have HC := Lib.hid hC
        clear hb hr hK hC hf
        unfold Run
        simp [execOp, Upon, go_sem, *]
        exact HK.out _ _ (.inl (Below.refl _ _)) rfl
      · refine ⟨rfl, ?_⟩
        refine (if_pos (by decide)).mpr ?_
        intro ev w' hC hc hf hb hr K hK
        have HK := Lib.hid hK
        have HC := Lib.hid hC
        clear hb hr hK hC hf
        unfold Run
        simp [execOp, Upon, go_sem, *]
        exact HK.out _ _ (.inl (Below.refl _ _)) rfl
    · exact rl_mono ⟨is_mono _, is_mono _, is_mono _, sto_mono _ _ _, sto_mono _ _ _, is_mono _, is_mono _, trivial⟩
    intro us wr hG hH
    obtain ⟨-, -, -, h3, h4, h5, h6, -⟩ := hH
    simp only [fillM]
    change us 8 = _ at h5
    rw [h5]
    clear h5
    change us 9 = _ at h6
    rw [h6]
    clear h6
    change (Sto (w.heap.size + 1) (sqC { q with sent := u, fsent := E } (.slice Av q.data.length cv)) 28 : Pred) undef wr at h3
    change (Sto (w.heap.size + 2) (#[.int .u32 sa, vp] : Array Value) 46 : Pred) undef wr at h4
    generalize us 77 = v77
    generalize us 78 = v78
    generalize us 79 = v79
    have HV1 : Hid (wr.heap[(w.heap.size + 1)]? = some (.cells (sqC { q with sent := u, fsent := E } (.slice Av q.data.length cv)) 28 (0, 0))) := h3
    clear h3
    have HV2 : Hid (wr.heap[(w.heap.size + 2)]? = some (.cells (#[.int .u32 sa, vp] : Array Value) 46 (0, 0))) := h4
    clear h4
    go_wp2
    (try simp only [Exit.inBlock, Exit.then])
    refine ret_cctt18 (g := w.heap.size + 1) (g2 := w.heap.size + 2) rfl rfl rfl HV1.out Try.underlying28 rfl (by kernel_rfl) HV2.out Try.underlying46 rfl (by kernel_rfl) rfl ?_
    have hX9 : ∀ b, w.heap.size + 3 ≤ b → ¬ (b = w.heap.size + 1 ∨ b = w.heap.size + 2) := fun b hb => by omega
    refine ⟨_, _, by rw [HQ.out.1, HFS.out.2]; rfl, rv_gro18 (own_rv HO9.out) hG hX9, ?_, HB9.out.trans (hG.below (fun k hk => by omega) HB9.out.size)⟩
    rw [HQ.out.2]
    exact rvs_cons.2 ⟨.val rfl, rvs_cons.2 ⟨(rv_gro18 ((own_rv HQ9.out).wide fun b (hb : w4.heap.size ≤ b) => Nat.le_trans HW4.out hb) hG hX9), rvs_nil⟩⟩
  · obtain rfl : true = FS := HF2.out
    go_upto_region 10 with (first | (refine wpList_store_fld rfl 4 _ _ rfl w.heap.size 4 rfl (.bool true) rfl 28 (sqC { q with sent := u } (.slice Av q.data.length cv)) HX8.out (by show 4 < 6; omega) (by kernel_rfl) (rfl) (sqC { q with sent := u, fsent := true } (.slice Av q.data.length cv)) rfl ?_; obtain ⟨w9, hw9⟩ : ∃ x, w8.setRow w.heap.size (sqC { q with sent := u, fsent := true } (.slice Av q.data.length cv)) = x := ⟨_, rfl⟩; have HX9 : Hid (w9.heap[w.heap.size]? = some (.cells (sqC { q with sent := u, fsent := true } (.slice Av q.data.length cv)) 28 (0, 0))) := (by rw [← hw9]; exact setRow_heap _ _ _ _ _ _ HX8.out); have HZ9 : Hid (w9.heap[w.heap.size + 1]? = some (.cells (Zsq) 28 (0, 0))) := (by rw [← hw9]; exact (setRow_other _ _ _ _ (by omega)).trans HZ8.out); have HP9 : Hid (w9.heap[w.heap.size + 2]? = some (.cells (#[.int .u32 0, .slice none 0 0]) 46 (0, 0))) := (by rw [← hw9]; exact (setRow_other _ _ _ _ (by omega)).trans HP8.out); have HN9 : Hid (w9.heap[gp]? = some (.cells (#[.int .u32 sa, vp]) 46 (0, 0))) := (by rw [← hw9]; exact (setRow_other _ _ _ _ (by have := HGP.out; omega)).trans HN8.out); have HO9 : Hid (w9.ownsRow (w.heap.size + 3) 5 1 (.slice Av q.data.length cv) (q.data.length) ((cells q.data))) := (by rw [← hw9]; exact own_set18 HO8.out HX8.out (by decide) _); have HQ9 : Hid (w9.ownsRow w4.heap.size 5 1 (vp) (pb.length) ((cells pb))) := (by rw [← hw9]; exact own_set18 HQ8.out HX8.out (by decide) _); have HB9 : Hid (Below w.heap.size w w9) := (by rw [← hw9]; exact below_setRow HB8.out (by omega) _); have HSZ9 : Hid (w9.heap.size = w8.heap.size) := (by show _ = _; rw [← hw9]; simp [World.setRow]); have HW9 := Lib.hid hw9; clear hw9; rw [HW9.out]; clear HW9 HX8 HZ8 HP8 HN8 HO8 HQ8 HB8) | go_in)
    clear c4
    have NE12 : Hid (w.heap.size + 1 ≠ w.heap.size + 2) := (by show _ ≠ _; omega)
    have NX1 : Hid (w.heap.size ≠ w.heap.size + 1) := (by show _ ≠ _; omega)
    have NX2 : Hid (w.heap.size ≠ w.heap.size + 2) := (by show _ ≠ _; omega)
    have NP1 : Hid (gp ≠ w.heap.size + 1) := (by have := HGP.out; show _ ≠ _; omega)
    have NP2 : Hid (gp ≠ w.heap.size + 2) := (by have := HGP.out; show _ ≠ _; omega)
    apply wp_region_relyQ (fun _ => true) (fun k => k = (w.heap.size + 1) ∨ k = (w.heap.size + 2)) (RL [Is (.agg (sqC { q with sent := u, fsent := true } (.slice Av q.data.length cv))), Is (.agg (#[.int .u32 sa, vp] : Array Value)), Is _, Sto (w.heap.size + 1) (sqC { q with sent := u, fsent := true } (.slice Av q.data.length cv)) 28, Sto (w.heap.size + 2) (#[.int .u32 sa, vp] : Array Value) 46, Is (.bool E), Is (.bool true)]) [false, false, false, false, false, false, false, false, true, true, false, false, false, false, false, false, false, false, false, false, false, false, false, false, false, false, false, false, false, false, false, false, false, false, false, false, false, false, false, false, false, false, false, false, false, false, false, false, false, false, false, false, false, false, false, false, false, false, false, false, false, false, false, false, false, false, false, false, false, false, false, false, false, false, false, false, false, true, true, true]
    · kernel_rfl
    · kernel_rfl
    · kernel_rfl
    · refine ⟨?_, ?_, ?_, ?_, ?_, ?_, ?_, trivial⟩
      · refine ⟨rfl, ?_⟩
        refine (if_pos (by decide)).mpr ?_
        intro ev w' hC hc hf hb hr K hK
        have e3 : ev (.tmp 3) = _ := hb 3 (by kernel_rfl)
        have HK := Lib.hid hK
        have HC := Lib.hid hC
        clear hb hr hK hC hf
        have q1 : ev (.tmp 3) = .pointer (some ⟨w.heap.size, 0, none⟩) := e3
        have hld := run_loadVar_row (P := Try.prog) w' w.heap.size 28 28 (sqC { q with sent := u, fsent := true } (.slice Av q.data.length cv)) (0, 0) _ (gro_old HC.out HX9.out (fun e => by rcases e with e | e; exact NX1.out e; exact NX2.out e)) Try.underlying28 rfl (by kernel_rfl)
        unfold Run
        rw [rely_load 28 _ rfl q1 hld]
        exact HK.out _ _ (.inl (Below.refl _ _)) rfl
      · refine ⟨rfl, ?_⟩
        refine (if_pos (by decide)).mpr ?_
        intro ev w' hC hc hf hb hr K hK
        have e13 : ev (.tmp 13) = _ := hb 13 (by kernel_rfl)
        have HK := Lib.hid hK
        have HC := Lib.hid hC
        clear hb hr hK hC hf
        have q1 : ev (.tmp 13) = .pointer (some ⟨gp, 0, none⟩) := e13
        have hld := run_loadVar_row (P := Try.prog) w' gp 46 46 (#[.int .u32 sa, vp] : Array Value) (0, 0) _ (gro_old HC.out HN9.out (fun e => by rcases e with e | e; exact NP1.out e; exact NP2.out e)) Try.underlying46 rfl (by kernel_rfl)
        unfold Run
        rw [rely_load 46 _ rfl q1 hld]
        exact HK.out _ _ (.inl (Below.refl _ _)) rfl
      · refine ⟨rfl, ?_⟩
        refine (if_pos (by decide)).mpr ?_
        intro ev w' hC hc hf hb hr K hK
        have e12 : ev (.tmp 12) = _ := hb 12 (by kernel_rfl)
        have HK := Lib.hid hK
        have HC := Lib.hid hC
        clear hb hr hK hC hf
        unfold Run
        simp [execOp, Upon, go_sem, *]
        exact HK.out _ _ (.inl (Below.refl _ _)) rfl
      · refine ⟨rfl, ?_⟩
        refine (if_pos (by decide)).mpr ?_
        intro ev w' hC hc hf hb hr K hK
        have e6 : ev (.tmp 6) = _ := hb 6 (by kernel_rfl)
        have e77 := hr 0 _ rfl (by kernel_rfl)
        change ev (.tmp 77) = _ at e77
        have HK := Lib.hid hK
        have HC := Lib.hid hC
        clear hb hr hK hC hf
        have qp : ev (.tmp 6) = .pointer (some ⟨(w.heap.size + 1), 0, none⟩) := e6
        obtain ⟨O9, hO9, hs9⟩ := HC.out.shape (w.heap.size + 1) _ _ _ HZ9.out
        have qv : ev (.tmp 77) = .agg (sqC { q with sent := u, fsent := true } (.slice Av q.data.length cv)) := e77
        have hs8 : O9.size = ((sqC { q with sent := u, fsent := true } (.slice Av q.data.length cv)) : Array Value).size := by rw [hs9]; rfl
        have hst := run_storeVar_row (P := Try.prog) w' (w.heap.size + 1) 28 28 O9 (sqC { q with sent := u, fsent := true } (.slice Av q.data.length cv)) hO9 (by kernel_rfl) hs8 (sqc_ones rfl)
        unfold Run
        rw [rely_store 28 _ _ rfl qp qv hst]
        refine HK.out _ _ (.inr ⟨groD_set (D := (fun k => k = (w.heap.size + 1) ∨ k = (w.heap.size + 2))) (Gro.refl _) (.inl rfl) hO9 hs8, fun j hj u hr => ?_⟩) (setRow_heap _ _ _ _ _ _ hO9)
        rcases j with _ | _ | _ | _ | _ | _ | _ | j
        · exact hr
        · exact hr
        · exact hr
        · exact absurd rfl hj
        · exact sto_set (u := u) hr (Ne.symm NE12.out)
        · exact hr
        · exact hr
        · exact trivial
      · refine ⟨rfl, ?_⟩
        refine (if_pos (by decide)).mpr ?_
        intro ev w' hC hc hf hb hr K hK
        have e7 : ev (.tmp 7) = _ := hb 7 (by kernel_rfl)
        have e78 := hr 1 _ rfl (by kernel_rfl)
        change ev (.tmp 78) = _ at e78
        have HK := Lib.hid hK
        have HC := Lib.hid hC
        clear hb hr hK hC hf
        have qp : ev (.tmp 7) = .pointer (some ⟨(w.heap.size + 2), 0, none⟩) := e7
        obtain ⟨O9, hO9, hs9⟩ := HC.out.shape (w.heap.size + 2) _ _ _ HP9.out
        have qv : ev (.tmp 78) = .agg (#[.int .u32 sa, vp] : Array Value) := e78
        have hs8 : O9.size = ((#[.int .u32 sa, vp] : Array Value) : Array Value).size := by rw [hs9]; rfl
        have hst := run_storeVar_row (P := Try.prog) w' (w.heap.size + 2) 46 46 O9 (#[.int .u32 sa, vp] : Array Value) hO9 (by kernel_rfl) hs8 (pco_ones HVP.out)
        unfold Run
        rw [rely_store 46 _ _ rfl qp qv hst]
        refine HK.out _ _ (.inr ⟨groD_set (D := (fun k => k = (w.heap.size + 1) ∨ k = (w.heap.size + 2))) (Gro.refl _) (.inr (rfl)) hO9 hs8, fun j hj u hr => ?_⟩) (setRow_heap _ _ _ _ _ _ hO9)
        rcases j with _ | _ | _ | _ | _ | _ | _ | j
        · exact hr
        · exact hr
        · exact hr
        · exact sto_set (u := u) hr NE12.out
        · exact absurd rfl hj
        · exact hr
        · exact hr
        · exact trivial
      · refine ⟨rfl, ?_⟩
        refine (if_pos (by decide)).mpr ?_
        intro ev w' hC hc hf hb hr K hK
        have e79 := hr 2 _ rfl (by kernel_rfl)
        change ev (.tmp 79) = _ at e79
        have HK := Lib.hid hK
        have HC := Lib.hid hC
        clear hb hr hK hC hf
        unfold Run
        simp [execOp, Upon, go_sem, *]
        exact HK.out _ _ (.inl (Below.refl _ _)) rfl
      · refine ⟨rfl, ?_⟩
        refine (if_pos (by decide)).mpr ?_
        intro ev w' hC hc hf hb hr K hK
        have HK := Lib.hid hK
        have HC := Lib.hid hC
        clear hb hr hK hC hf
        unfold Run
        simp [execOp, Upon, go_sem, *]
        exact HK.out _ _ (.inl (Below.refl _ _)) rfl
    · exact rl_mono ⟨is_mono _, is_mono _, is_mono _, sto_mono _ _ _, sto_mono _ _ _, is_mono _, is_mono _, trivial⟩
    intro us wr hG hH
    obtain ⟨-, -, -, h3, h4, h5, h6, -⟩ := hH
    simp only [fillM]
    change us 8 = _ at h5
    rw [h5]
    clear h5
    change us 9 = _ at h6
    rw [h6]
    clear h6
    change (Sto (w.heap.size + 1) (sqC { q with sent := u, fsent := true } (.slice Av q.data.length cv)) 28 : Pred) undef wr at h3
    change (Sto (w.heap.size + 2) (#[.int .u32 sa, vp] : Array Value) 46 : Pred) undef wr at h4
    generalize us 77 = v77
    generalize us 78 = v78
    generalize us 79 = v79
    have HV1 : Hid (wr.heap[(w.heap.size + 1)]? = some (.cells (sqC { q with sent := u, fsent := true } (.slice Av q.data.length cv)) 28 (0, 0))) := h3
    clear h3
    have HV2 : Hid (wr.heap[(w.heap.size + 2)]? = some (.cells (#[.int .u32 sa, vp] : Array Value) 46 (0, 0))) := h4
    clear h4
    go_wp2
    (try simp only [Exit.inBlock, Exit.then])
    refine ret_cctt18 (g := w.heap.size + 1) (g2 := w.heap.size + 2) rfl rfl rfl HV1.out Try.underlying28 rfl (by kernel_rfl) HV2.out Try.underlying46 rfl (by kernel_rfl) rfl ?_
    have hX9 : ∀ b, w.heap.size + 3 ≤ b → ¬ (b = w.heap.size + 1 ∨ b = w.heap.size + 2) := fun b hb => by omega
    refine ⟨_, _, by rw [HQ.out.1, HFS.out.2]; rfl, rv_gro18 (own_rv HO9.out) hG hX9, ?_, HB9.out.trans (hG.below (fun k hk => by omega) HB9.out.size)⟩
    rw [HQ.out.2]
    exact rvs_cons.2 ⟨.val rfl, rvs_cons.2 ⟨(rv_gro18 ((own_rv HQ9.out).wide fun b (hb : w4.heap.size ≤ b) => Nat.le_trans HW4.out hb) hG hX9), rvs_nil⟩⟩
end Go.Proofs.Ytebflcpoecolbaa
