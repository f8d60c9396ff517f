/-
  The document's Add of routes. Every slice of at most 1000 routes, every route.
-/
import Derived.Test.YtfifigokglmjlaaRfd
namespace Go.Proofs.Ytfifigokglmjlaa
open Go.RowKit

/-- a route whose net has noughts behind its first bits -/
def maskR (r : Ro) : Ro := { r with net := maskX r.net r.bits.toNat }
/-- a route laid into its place -/
def insX (r : Ro) (K : List Ro) : List Ro := K.takeWhile (fun q => !firstX r q) ++ r :: K.dropWhile (fun q => !firstX r q)
/-- one more; the error -/
def addX (K : List Ro) (r : Ro) : List Ro × Int :=
  if r.bits < 0 ∨ 32 < r.bits then (K, 1) else if K.any (isR (maskR r).net r.bits) = true then (K, 9) else if 8 ≤ K.length then (K, 5) else (insX (maskR r) K, 0)
theorem ins_none {r : Ro} {K : List Ro} (h : K.any (firstX r) = false) : insX r K = K ++ [r] := by
  have h2 : ∀ q ∈ K, (fun q => !firstX r q) q = true := fun q hq => by
    have := List.any_eq_false.1 h q hq
    simpa using this
  have e1 : K.takeWhile (fun q => !firstX r q) = K := by
    have := List.takeWhile_append_of_pos (l₂ := []) h2
    simpa using this
  have e2 : K.dropWhile (fun q => !firstX r q) = [] := by
    have := List.dropWhile_append_of_pos (l₂ := []) h2
    simpa using this
  unfold insX
  rw [e1, e2]
theorem ins_snoc {r x : Ro} {K : List Ro} (h : K.any (firstX r) = true) : insX r (K ++ [x]) = insX r K ++ [x] := by
  induction K with
  | nil => cases h
  | cons y K ih =>
    unfold insX at *
    cases hy : firstX r y
    · have h2 : K.any (firstX r) = true := by
        rw [List.any_cons, hy] at h
        exact h
      have := ih h2
      simp only [List.cons_append, List.takeWhile_cons, List.dropWhile_cons, hy, Bool.not_false, if_true]
      rw [this]
    · simp [hy]
theorem ins_here {r x : Ro} {K : List Ro} (h : K.any (firstX r) = false) (hx : firstX r x = true) : insX r (K ++ [x]) = K ++ [r] ++ [x] := by
  have h2 : ∀ q ∈ K, (fun q => !firstX r q) q = true := fun q hq => by
    have := List.any_eq_false.1 h q hq
    simpa using this
  unfold insX
  rw [List.takeWhile_append_of_pos h2, List.dropWhile_append_of_pos h2]
  simp [hx]
theorem any_snoc {α : Type} {p : α → Bool} {K : List α} {i : Nat} {x : α} (h : K[i]? = some x) : (K.take (i + 1)).any p = ((K.take i).any p || p x) := by
  have hi := (List.getElem?_eq_some_iff.1 h).1
  rw [List.take_succ_eq_append_getElem hi, List.any_append, (List.getElem?_eq_some_iff.1 h).2]
  simp
theorem take_snoc {α : Type} {K : List α} {i : Nat} {x : α} (h : K[i]? = some x) : K.take (i + 1) = K.take i ++ [x] := by
  have hi := (List.getElem?_eq_some_iff.1 h).1
  rw [List.take_succ_eq_append_getElem hi, (List.getElem?_eq_some_iff.1 h).2]
theorem any_no {α : Type} {p : α → Bool} {K : List α} (h : ∀ j x, j < K.length → K[j]? = some x → p x = false) : K.any p = false := by
  rw [List.any_eq_false]
  intro x hx
  obtain ⟨j, hj, rfl⟩ := List.mem_iff_getElem.1 hx
  rw [h j _ hj (List.getElem?_eq_getElem hj)]
  simp
theorem any_at {α : Type} {p : α → Bool} {K : List α} {i : Nat} {x : α} (h : K[i]? = some x) (hp : p x = true) : K.any p = true := List.any_eq_true.2 ⟨x, List.mem_of_getElem? h, hp⟩
theorem all_step {w0 w : World} {ad : Addr} {C : Array Value} (h : ∀ w', Below w0.heap.size w0 w' → ∀ (j : Nat) v, C[j]? = some v → w'.cell? (ad.add j) = some v) (hb : Below w0.heap.size w0 w) : ∀ w', Below w.heap.size w w' → ∀ (j : Nat) v, C[j]? = some v → w'.cell? (ad.add j) = some v := fun w' hb' => h w' (hb.trans (hb'.mono hb.size))
theorem mask_cells (r : Ro) (x : Ip) : ((roA r).toList.take 0 ++ (ipA x).toList ++ (roA r).toList.drop (0 + (ipA x).size)).toArray = roA { r with net := x } := by
  simp [roA, ipA]
set_option maxRecDepth 100000 in
theorem refadd_bits (v : Value) (K : List Ro) (r : Ro) (w : World) (hv : RoT w v K) (hb : r.bits < 0 ∨ 32 < r.bits) :
    Calls Try.prog 12 #[v, .agg (roA r)] w fun e w' => ∃ v', e = .returned (.tuple #[v', .int .i64 (addX K r).2]) ∧ RoT w' v' (addX K r).1 ∧ Below w.heap.size w w' := by
  have HRES : Hid (addX K r = (K, 1)) := if_pos hb
  have HB : Hid (Below w.heap.size w (w.alloc (.cells (roA r) 28))) := (Below.refl _ _).alloc (Nat.le_refl _) _
  have HV := Lib.hid hv
  have hso := hv.one
  rw [HRES.out]
  obtain ⟨⟨x0, x1, x2, x3⟩, z, ⟨y0, y1, y2, y3⟩⟩ := r
  simp only [roA] at hb HB ⊢
  clear HRES hv
  rcases hb with h | h
  · go_enter Try.func12, Try.ntmps12
    go_wp2
    refine ret_tmp2 rfl rfl ?_
    exact ⟨_, rfl, HV.out.below HB.out, HB.out⟩
  · have h0 : ¬ z < 0 := by omega
    go_enter Try.func12, Try.ntmps12
    go_wp2
    refine ret_tmp2 rfl rfl ?_
    exact ⟨_, rfl, HV.out.below HB.out, HB.out⟩
set_option maxRecDepth 100000 in
set_option maxHeartbeats 16000000 in
theorem refadd_good (v : Value) (K : List Ro) (r : Ro) (b : Nat) (w : World) (hv : RoT w v K) (hl : K.length ≤ 1000) (hb : r.bits = (b : Int)) (hb32 : b ≤ 32) :
    Calls Try.prog 12 #[v, .agg (roA r)] w fun e w' => ∃ v', e = .returned (.tuple #[v', .int .i64 (addX K r).2]) ∧ RoT w' v' (addX K r).1 ∧ Below w.heap.size w w' := by
  obtain ⟨R, hR⟩ : ∃ R, maskR r = R := ⟨_, rfl⟩
  have HRES : Hid (addX K r = if K.any (isR R.net (b : Int)) = true then (K, 9) else if 8 ≤ K.length then (K, 5) else (insX R K, 0)) := by
    show _ = _
    unfold addX
    rw [if_neg (by rw [hb]; omega), hR, hb]
  have hRb : R.bits = (b : Int) := by rw [← hR]; exact hb
  have hRc : ((roA r).toList.take 0 ++ (ipA (maskX r.net b)).toList ++ (roA r).toList.drop (0 + (ipA (maskX r.net b)).size)).toArray = roA R := by
    rw [mask_cells, ← hR]
    unfold maskR
    rw [hb]
    rfl
  have HV := Lib.hid hv
  obtain ⟨A, c, rfl, htr, -, hnc, hcm⟩ := hv
  obtain ⟨n, hnn⟩ : ∃ n, K.length = n := ⟨_, rfl⟩
  rw [hnn] at hl hnc HRES HV ⊢
  have hcm2 : c ≤ 9223372036854775807 := by unfold maxLen at hcm; omega
  obtain ⟨w1, hw1⟩ : ∃ w1, w.alloc (.cells (roA r) 28) = w1 := ⟨_, rfl⟩
  have HB1 : Hid (Below w.heap.size w w1) := by rw [← hw1]; exact (Below.refl _ _).alloc (Nat.le_refl _) _
  have HX1 : Hid (w1.heap[w.heap.size]? = some (.cells (roA r) 28 (0, 0))) := by rw [← hw1]; exact heap_alloc_new w _
  have HW := Lib.hid hw1
  have HTR := Lib.hid htr
  have HN := Lib.hid hnn
  have HMK : Hid (∀ w, Calls Try.prog 25 #[.agg (ipA r.net), .int .i64 (b : Int)] w fun e w' => e = .returned (.agg (ipA (maskX r.net b))) ∧ Below w.heap.size w w') := fun w => mask_any r.net b w hb32
  have a4 : w1.cell? ⟨w.heap.size, 4, none⟩ = some (.int .i64 (b : Int)) := by
    rw [cell_of_row _ _ _ _ _ _ HX1.out, roA_bits, hb]
  have HC1 : Hid (∀ (j : Nat) v, (ipA r.net)[j]? = some v → w1.cell? ((⟨w.heap.size, 0, none⟩ : Addr).add j) = some v) := fun j v hv => var_all HX1.out w1 (Below.refl _ _) j v (roA_net r j v hv)
  have HRC := Lib.hid hRc
  have HRB := Lib.hid hRb
  have HSM : Hid ((ipA (maskX r.net b)).size = 4) := ipE.size _
  have HOM : Hid ((ipA (maskX r.net b)).all (·.oneCell') = true) := ipE.one _
  have HSB : Hid ((roA r).size = 9) := roE.size _
  obtain ⟨CB, hCB⟩ : ∃ CB, roA r = CB := ⟨_, rfl⟩
  obtain ⟨CI, hCI⟩ : ∃ CI, ipA r.net = CI := ⟨_, rfl⟩
  have HSI : Hid (CI.size = 4) := by rw [← hCI]; exact ipE.size _
  obtain ⟨CM, hCM⟩ : ∃ CM, ipA (maskX r.net b) = CM := ⟨_, rfl⟩
  rw [hCB] at HX1 HW HRC HSB ⊢
  rw [hCI] at HC1 HMK
  rw [hCM] at HMK HRC HSM HOM
  have h0 : ¬ (b : Int) < 0 := by omega
  have h32 : ¬ 32 < (b : Int) := by omega
  clear hnn htr hcm hw1 hRc hRb hR hb hCB hCI hCM
  go_enter Try.func12, Try.ntmps12
  go_upto_region 1 with (fail)
  change Code.wp _ _ _ _ (w.alloc (.cells CB 28))
  rw [HW.out]
  clear HW
  go_wp2_with (refine wpList_load_atA rfl 26 _ rfl (⟨w.heap.size, 0, none⟩ : Addr) rfl CI _ HC1.out Try.underlying26 rfl (by rw [HSI.out]; kernel_rfl) ?_)
  refine (HMK.out _).mono ?_
  rintro e w1b ⟨rfl, hb2⟩
  have HX1b := Lib.hid (old_below HX1.out hb2 (row_lt HX1.out))
  have HB1b := Lib.hid (HB1.out.trans (hb2.mono HB1.out.size))
  clear hb2 a4 h0 h32 HC1 HMK
  go_upto_region 4 with (refine wpList_store_elem rfl 26 _ _ rfl w.heap.size 0 CM rfl rfl CB 28 HX1b.out (by rw [HSM.out, HSB.out]; decide) (by rw [HSM.out]; kernel_rfl) HOM.out (roA R) HRC.out ?_)
  have HX2 : Hid ((w1b.setRow w.heap.size (roA R)).heap[w.heap.size]? = some (.cells (roA R) 28 (0, 0))) := setRow_heap _ _ _ _ _ _ HX1b.out
  have HB2 : Hid (Below w.heap.size w (w1b.setRow w.heap.size (roA R))) := below_setRow HB1b.out (Nat.le_refl _) _
  have HTR2 : Hid (Rs (w1b.setRow w.heap.size (roA R)) A (rowsOf roA K)) := HTR.out.below HB2.out (Nat.le_refl _)
  generalize w1b.setRow w.heap.size (roA R) = w2 at HX2 HB2 HTR2 ⊢
  have HBX : Hid (∀ (g : Nat), w2.heap.size ≤ g → ¬ w.heap.size = g) := fun g hg e => by
    have := row_lt HX2.out
    omega
  clear HX1 HX1b HB1 HB1b HRC HSM HOM HSB HSI HTR
  go_wp2
  go_loopw [6, 7, 8] (fun t6 t7 t8 wr => ∃ (i : Nat) (put : Bool) (U : List Ro), i ≤ n ∧ t8 = .int .i64 (i : Int) ∧ t7 = .bool put ∧ Hid (wr.ownsRow w2.heap.size 28 9 t6 (i + put.toNat) (rowsOf roA U)) ∧ Hid (∀ j h, j < i → K[j]? = some h → isR R.net (b : Int) h = false) ∧ Hid (put = (K.take i).any (firstX R)) ∧ Hid (U = if put = true then insX R (K.take i) else K.take i) ∧ Hid (Below w2.heap.size w2 wr)) (fun _ _ t8 _ => n - (intOf t8).toNat)
  case atStart => exact ⟨0, false, [], Nat.zero_le _, rfl, rfl, Lib.hid (World.ownsRow_nil _ _ _ _), Lib.hid (fun j h hj => by omega), Lib.hid rfl, Lib.hid rfl, Lib.hid (Below.refl _ _)⟩
  case round =>
    obtain ⟨i, put, U, hi, rfl, rfl, HOW, HNO, HPU, HU, HBW⟩ := hrel
    generalize u6 = v6 at HOW ⊢
    have HBV := Lib.hid (HB2.out.trans (HBW.out.mono HB2.out.size))
    by_cases hlt : i < n
    · obtain ⟨q, hq⟩ : ∃ q, K[i]? = some q := ⟨_, List.getElem?_eq_getElem (by rw [HN.out]; exact hlt)⟩
      have HQ := Lib.hid hq
      obtain ⟨ad, rfl, hKA⟩ := el_all roE HTR2.out (by omega) hq
      have HKA := Lib.hid hKA
      have HKX := Lib.hid (var_all HX2.out)
      have hKw := all_step hKA HBW.out
      have hXw := all_step HKX.out HBW.out
      have K4 := Lib.hid (all_cell (o := 4) hKw (roA_bits q))
      have KN := Lib.hid (all_part0 hKw (roA_net q))
      have T4 := Lib.hid (all_cell (o := 4) hXw (roA_bits R))
      have KT := Lib.hid (all_part0 hXw (roA_net R))
      have HFI : Hid (∀ w, Calls Try.prog 26 #[.agg (roA R), .agg (roA q)] w fun e w' => e = .returned (.bool (firstX R q)) ∧ Below w.heap.size w w') := fun w => first_any R q w
      have heq : ∀ w, (Op.equalIn 10000 26 (.agg (ipA q.net)) (.agg (ipA R.net))).run Try.prog w = .ok (decide (q.net = R.net)) w := eq_ip 9998 q.net R.net
      have HSN : Hid ((ipA q.net).size = 4) := ipE.size _
      have HST : Hid ((ipA R.net).size = 4) := ipE.size _
      have HSQ : Hid ((roA q).size = 9) := roE.size _
      have HSR : Hid ((roA R).size = 9) := roE.size _
      have CQ1 : Hid (∀ u ∈ (roA q).toList, u.oneCell' = true) := el_ones roE q
      have CR1 : Hid (∀ u ∈ (roA R).toList, u.oneCell' = true) := el_ones roE R
      have HAN := Lib.hid (any_snoc (p := firstX R) hq)
      have HTS := Lib.hid (take_snoc hq)
      have HRW : Hid (∀ (U : List Ro) (x : Ro), rowsOf roA (U ++ [x]) = rowsOf roA U ++ (roA x).toList) := fun U x => by rw [rows_append, rows_one_el]
      obtain ⟨z, hz⟩ : ∃ z, q.bits = z := ⟨_, rfl⟩
      have HZ := Lib.hid hz
      rw [hz] at K4
      rw [HRB.out] at T4
      obtain ⟨CN, hCN⟩ : ∃ CN, ipA q.net = CN := ⟨_, rfl⟩
      rw [hCN] at KN heq HSN
      obtain ⟨CT, hCT⟩ : ∃ CT, ipA R.net = CT := ⟨_, rfl⟩
      rw [hCT] at KT heq HST
      have HRQ := HRW.out U q
      have HRR := HRW.out U R
      have HRRQ := HRW.out (U ++ [R]) q
      obtain ⟨CQ, hCQ⟩ : ∃ CQ, roA q = CQ := ⟨_, rfl⟩
      rw [hCQ] at HKA HFI HSQ CQ1 HRQ HRRQ
      obtain ⟨CR, hCR⟩ : ∃ CR, roA R = CR := ⟨_, rfl⟩
      rw [hCR] at HKX HFI HSR CR1 HRR
      have HRQ2 := Lib.hid HRQ
      have HRR2 := Lib.hid HRR
      have HRRQ2 := Lib.hid HRRQ
      obtain ⟨i0, q0, q1, q2, q3⟩ := info_ro9
      clear hq hKA hKw hXw hz hCN hCT hCQ hCR HRQ HRR HRRQ HRW
      by_cases hnet : q.net = R.net
      · rw [decide_eq_true hnet] at heq
        by_cases hbz : z = (b : Int)
        · have HV9 : Hid (addX K r = (K, 9)) := by
            show _ = _
            rw [HRES.out, if_pos (any_at HQ.out (decide_eq_true ⟨hnet, HZ.out.trans hbz⟩))]
          subst hbz
          clear hnet
          go_upto_region 9 with (fail)
          refine wp_region_quiet_below (by kernel_rfl) (by kernel_rfl) ?_
          (first | go_big_quiet_step (fail) | quiet_step (fail))
          (first | go_big_quiet_step (fail) | quiet_step (fail))
          (first | go_big_quiet_step (fail) | quiet_step (fail))
          (first | go_big_quiet_step (fail) | quiet_step (fail))
          (refine wpQuiet_step (fun K hK => ?_); refine quiet_load_at (by kernel_rfl) 26 _ rfl (ad.add (i * 9)) (by first | rfl | (simp [Act.eval, Addr.add_mid])) CN _ KN.out Try.underlying26 rfl (by rw [HSN.out]; kernel_rfl) ?_; refine hK _ ?_; clear hK K; go_frame)
          (first | go_big_quiet_step (fail) | quiet_step (fail))
          (refine wpQuiet_step (fun K hK => ?_); refine quiet_load_at (by kernel_rfl) 26 _ rfl (⟨w.heap.size, 0, none⟩ : Addr) (by first | rfl | (simp [Act.eval, Addr.add_mid])) CT _ KT.out Try.underlying26 rfl (by rw [HST.out]; kernel_rfl) ?_; refine hK _ ?_; clear hK K; go_frame)
          (first | go_big_quiet_step (fail) | quiet_step (fail))
          (first | go_big_quiet_step (fail) | quiet_step (fail))
          (first | go_big_quiet_step (fail) | quiet_step (fail))
          (first | go_big_quiet_step (fail) | quiet_step (fail))
          (first | go_big_quiet_step (fail) | quiet_step (fail))
          (first | go_big_quiet_step (fail) | quiet_step (fail))
          (refine wpQuiet_step (fun K hK => ?_); refine quiet_load_cell (by kernel_rfl) 3 _ rfl ((ad.add (i * 9)).add 4) (by first | rfl | (simp [Act.eval, Addr.add_mid])) (.int .i64 (b : Int)) _ K4.out Try.underlying3 rfl ?_; refine hK _ ?_; clear hK K; go_frame)
          (first | go_big_quiet_step (fail) | quiet_step (fail))
          (refine wpQuiet_step (fun K hK => ?_); refine quiet_load_cell (by kernel_rfl) 3 _ rfl ((⟨w.heap.size, 0, none⟩ : Addr).add 4) (by first | rfl | (simp [Act.eval, Addr.add_mid])) (.int .i64 (b : Int)) _ T4.out Try.underlying3 rfl ?_; refine hK _ ?_; clear hK K; go_frame)
          (first | go_big_quiet_step (fail) | quiet_step (fail))
          (first | go_big_quiet_step (fail) | quiet_step (fail))
          refine wpQuiet_nil ?_
          intro w9 hw9
          obtain ⟨⟨dq, osq⟩, rfl⟩ := hw9
          have HBA := Lib.hid ((HBW.out).trans ((below_regrown wr dq osq).mono (HBW.out).size))
          have HOA := Lib.hid (ownk_below HOW.out (below_regrown wr dq osq) (Nat.le_refl _))
          generalize Sort.grow (redrawn wr dq) osq = wa at *
          go_wp2
          refine ret_tmp2 rfl rfl ?_
          rw [HV9.out]
          have HBZ := HB2.out.trans (HBA.out.mono HB2.out.size)
          exact ⟨_, rfl, HV.out.below HBZ, HBZ⟩
        · have HNO2 := Lib.hid (no_next HNO.out HQ.out (decide_eq_false fun h => hbz (HZ.out.symm.trans h.2)))
          clear hnet
          go_upto_region 9 with (fail)
          refine wp_region_quiet_below (by kernel_rfl) (by kernel_rfl) ?_
          (first | go_big_quiet_step (fail) | quiet_step (fail))
          (first | go_big_quiet_step (fail) | quiet_step (fail))
          (first | go_big_quiet_step (fail) | quiet_step (fail))
          (first | go_big_quiet_step (fail) | quiet_step (fail))
          (refine wpQuiet_step (fun K hK => ?_); refine quiet_load_at (by kernel_rfl) 26 _ rfl (ad.add (i * 9)) (by first | rfl | (simp [Act.eval, Addr.add_mid])) CN _ KN.out Try.underlying26 rfl (by rw [HSN.out]; kernel_rfl) ?_; refine hK _ ?_; clear hK K; go_frame)
          (first | go_big_quiet_step (fail) | quiet_step (fail))
          (refine wpQuiet_step (fun K hK => ?_); refine quiet_load_at (by kernel_rfl) 26 _ rfl (⟨w.heap.size, 0, none⟩ : Addr) (by first | rfl | (simp [Act.eval, Addr.add_mid])) CT _ KT.out Try.underlying26 rfl (by rw [HST.out]; kernel_rfl) ?_; refine hK _ ?_; clear hK K; go_frame)
          (first | go_big_quiet_step (fail) | quiet_step (fail))
          (first | go_big_quiet_step (fail) | quiet_step (fail))
          (first | go_big_quiet_step (fail) | quiet_step (fail))
          (first | go_big_quiet_step (fail) | quiet_step (fail))
          (first | go_big_quiet_step (fail) | quiet_step (fail))
          (first | go_big_quiet_step (fail) | quiet_step (fail))
          (refine wpQuiet_step (fun K hK => ?_); refine quiet_load_cell (by kernel_rfl) 3 _ rfl ((ad.add (i * 9)).add 4) (by first | rfl | (simp [Act.eval, Addr.add_mid])) (.int .i64 z) _ K4.out Try.underlying3 rfl ?_; refine hK _ ?_; clear hK K; go_frame)
          (first | go_big_quiet_step (fail) | quiet_step (fail))
          (refine wpQuiet_step (fun K hK => ?_); refine quiet_load_cell (by kernel_rfl) 3 _ rfl ((⟨w.heap.size, 0, none⟩ : Addr).add 4) (by first | rfl | (simp [Act.eval, Addr.add_mid])) (.int .i64 (b : Int)) _ T4.out Try.underlying3 rfl ?_; refine hK _ ?_; clear hK K; go_frame)
          (first | go_big_quiet_step (fail) | quiet_step (fail))
          (first | go_big_quiet_step (fail) | quiet_step (fail))
          refine wpQuiet_nil ?_
          intro w9 hw9
          obtain ⟨⟨dq, osq⟩, rfl⟩ := hw9
          have HBA := Lib.hid ((HBW.out).trans ((below_regrown wr dq osq).mono (HBW.out).size))
          have HOA := Lib.hid (ownk_below HOW.out (below_regrown wr dq osq) (Nat.le_refl _))
          generalize Sort.grow (redrawn wr dq) osq = wa at *
          clear heq
          cases put
          · cases hf : firstX R q
            · have HPU2 : Hid (false = (K.take (i + 1)).any (firstX R)) := by
                show _ = _
                rw [HAN.out, ← HPU.out, hf]
                rfl
              have HU2 : Hid (U ++ [q] = if false = true then insX R (K.take (i + 1)) else K.take (i + 1)) := by
                show _ = _
                rw [if_neg (by decide), HTS.out, HU.out]
                rfl
              rw [hf] at HFI
              clear hf
              have KQ := Lib.hid (fun w' (hr : Reg wa w') => all_step HKA.out HBA.out w' (reg_below hr))
              have KR := Lib.hid (fun w' (hr : Reg wa w') => all_step HKX.out HBA.out w' (reg_below hr))
              go_upto_region 11 with (fail)
              refine wp_region_quiet_below (by kernel_rfl) (by kernel_rfl) ?_
              (first | go_big_quiet_step (fail) | quiet_step (fail))
              (first | go_big_quiet_step (fail) | quiet_step (fail))
              (first | go_big_quiet_step (fail) | quiet_step (fail))
              (refine wpQuiet_step (fun K hK => ?_); refine quiet_load_at (by kernel_rfl) 28 _ rfl (⟨w.heap.size, 0, none⟩ : Addr) (by first | rfl | (simp [Act.eval, Addr.add_mid])) CR _ KR.out Try.underlying28 rfl (by rw [HSR.out]; kernel_rfl) ?_; refine hK _ ?_; clear hK K; go_frame)
              (first | go_big_quiet_step (fail) | quiet_step (fail))
              (first | go_big_quiet_step (fail) | quiet_step (fail))
              (first | go_big_quiet_step (fail) | quiet_step (fail))
              (refine wpQuiet_step (fun K hK => ?_); refine quiet_load_at (by kernel_rfl) 28 _ rfl (ad.add (i * 9)) (by first | rfl | (simp [Act.eval, Addr.add_mid])) CQ _ KQ.out Try.underlying28 rfl (by rw [HSQ.out]; kernel_rfl) ?_; refine hK _ ?_; clear hK K; go_frame)
              quiet_step (first | (go_at_call 26; exact Calls.regrown_of (HFI.out _)))
              (first | go_big_quiet_step (fail) | quiet_step (fail))
              refine wpQuiet_nil ?_
              intro w9 hw9
              obtain ⟨⟨dq, osq⟩, rfl⟩ := hw9
              have HBB := Lib.hid ((HBA.out).trans ((below_regrown wa dq osq).mono (HBA.out).size))
              have HOB := Lib.hid (ownk_below HOA.out (below_regrown wa dq osq) (Nat.le_refl _))
              generalize Sort.grow (redrawn wa dq) osq = wb at *
              go_wp2_with (first | (refine wpList_load_atA rfl 28 _ rfl (ad.add (i * 9)) rfl CQ _ (HKA.out _ HBB.out) Try.underlying28 rfl (by rw [HSQ.out]; kernel_rfl) ?_) | (refine wpList_build_one rfl 24 28 _ rfl CQ rfl Try.underlying24 9 (by decide) (by decide) (by kernel_rfl) HSQ.out ?_) | (at_builtin; refine wpList_append_elem rfl _ _ 24 rfl w2.heap.size 28 i0 _ 9 24 Try.underlying24 q0 q1 q2 q3 rfl (by decide) _ i (rowsOf roA U) rfl (ownk_below HOB.out ((Below.refl _ _).alloc (Nat.le_refl _) _) (Nat.le_refl _)) _ 1 CQ _ _ rfl (heap_alloc_new _ _) HSQ.out CQ1.out (by unfold maxLen; omega) (by omega) (by have := HBB.out.size; simp; omega) ?_; intro v8 w8 hown6 hgrow6 _; have HO8 := Lib.hid hown6; have HB8 : Hid (Below w2.heap.size w2 w8) := (HBB.out.alloc HBB.out.size _).grown hgrow6 (by have := HBB.out.size; simp; omega) fun g hg => (HOB.out.lt g hg).1; clear hown6 hgrow6))
              go_roundw
              case rel => exact ⟨i + 1, false, U ++ [q], by omega, by go_num, rfl, Lib.hid (by show World.ownsRow _ _ _ _ _ _ _; rw [HRQ2.out]; exact HO8.out), HNO2, HPU2, HU2, HB8⟩
              case measure => simp [intOf]; omega
            · have HPU2 : Hid (true = (K.take (i + 1)).any (firstX R)) := by
                show _ = _
                rw [HAN.out, hf, Bool.or_true]
              have HU2 : Hid (U ++ [R] ++ [q] = if true = true then insX R (K.take (i + 1)) else K.take (i + 1)) := by
                show _ = _
                rw [if_pos rfl, HTS.out, ins_here HPU.out.symm hf, HU.out]
                rfl
              rw [hf] at HFI
              clear hf
              have KQ := Lib.hid (fun w' (hr : Reg wa w') => all_step HKA.out HBA.out w' (reg_below hr))
              have KR := Lib.hid (fun w' (hr : Reg wa w') => all_step HKX.out HBA.out w' (reg_below hr))
              go_upto_region 11 with (fail)
              refine wp_region_quiet_below (by kernel_rfl) (by kernel_rfl) ?_
              (first | go_big_quiet_step (fail) | quiet_step (fail))
              (first | go_big_quiet_step (fail) | quiet_step (fail))
              (first | go_big_quiet_step (fail) | quiet_step (fail))
              (refine wpQuiet_step (fun K hK => ?_); refine quiet_load_at (by kernel_rfl) 28 _ rfl (⟨w.heap.size, 0, none⟩ : Addr) (by first | rfl | (simp [Act.eval, Addr.add_mid])) CR _ KR.out Try.underlying28 rfl (by rw [HSR.out]; kernel_rfl) ?_; refine hK _ ?_; clear hK K; go_frame)
              (first | go_big_quiet_step (fail) | quiet_step (fail))
              (first | go_big_quiet_step (fail) | quiet_step (fail))
              (first | go_big_quiet_step (fail) | quiet_step (fail))
              (refine wpQuiet_step (fun K hK => ?_); refine quiet_load_at (by kernel_rfl) 28 _ rfl (ad.add (i * 9)) (by first | rfl | (simp [Act.eval, Addr.add_mid])) CQ _ KQ.out Try.underlying28 rfl (by rw [HSQ.out]; kernel_rfl) ?_; refine hK _ ?_; clear hK K; go_frame)
              quiet_step (first | (go_at_call 26; exact Calls.regrown_of (HFI.out _)))
              (first | go_big_quiet_step (fail) | quiet_step (fail))
              refine wpQuiet_nil ?_
              intro w9 hw9
              obtain ⟨⟨dq, osq⟩, rfl⟩ := hw9
              have HBB := Lib.hid ((HBA.out).trans ((below_regrown wa dq osq).mono (HBA.out).size))
              have HOB := Lib.hid (ownk_below HOA.out (below_regrown wa dq osq) (Nat.le_refl _))
              generalize Sort.grow (redrawn wa dq) osq = wb at *
              go_upto_region 14 with (first | (first | (refine wpList_load_atA rfl 28 _ rfl (⟨w.heap.size, 0, none⟩ : Addr) rfl CR _ (HKX.out _ HBB.out) Try.underlying28 rfl (by rw [HSR.out]; kernel_rfl) ?_) | (refine wpList_build_one rfl 24 28 _ rfl CR rfl Try.underlying24 9 (by decide) (by decide) (by kernel_rfl) HSR.out ?_) | (at_builtin; refine wpList_append_elem rfl _ _ 24 rfl w2.heap.size 28 i0 _ 9 24 Try.underlying24 q0 q1 q2 q3 rfl (by decide) _ i (rowsOf roA U) rfl (ownk_below HOB.out ((Below.refl _ _).alloc (Nat.le_refl _) _) (Nat.le_refl _)) _ 1 CR _ _ rfl (heap_alloc_new _ _) HSR.out CR1.out (by unfold maxLen; omega) (by omega) (by have := HBB.out.size; simp; omega) ?_; intro v8 w8 hown6 hgrow6 _; have HO8 := Lib.hid hown6; have HB8 : Hid (Below w2.heap.size w2 w8) := (HBB.out.alloc HBB.out.size _).grown hgrow6 (by have := HBB.out.size; simp; omega) fun g hg => (HOB.out.lt g hg).1; clear hown6 hgrow6)) | go_in)
              rw [← HRR2.out] at HO8
              go_wp2_with (first | (refine wpList_load_atA rfl 28 _ rfl (ad.add (i * 9)) rfl CQ _ (HKA.out _ HB8.out) Try.underlying28 rfl (by rw [HSQ.out]; kernel_rfl) ?_) | (refine wpList_build_one rfl 24 28 _ rfl CQ rfl Try.underlying24 9 (by decide) (by decide) (by kernel_rfl) HSQ.out ?_) | (at_builtin; refine wpList_append_elem rfl _ _ 24 rfl w2.heap.size 28 i0 _ 9 24 Try.underlying24 q0 q1 q2 q3 rfl (by decide) _ (i + 1) (rowsOf roA (U ++ [R])) rfl (ownk_below HO8.out ((Below.refl _ _).alloc (Nat.le_refl _) _) (Nat.le_refl _)) _ 1 CQ _ _ rfl (heap_alloc_new _ _) HSQ.out CQ1.out (by unfold maxLen; omega) (by omega) (by have := HB8.out.size; simp; omega) ?_; intro v7 w7 hown6 hgrow6 _; have HO7 := Lib.hid hown6; have HB7 : Hid (Below w2.heap.size w2 w7) := (HB8.out.alloc HB8.out.size _).grown hgrow6 (by have := HB8.out.size; simp; omega) fun g hg => (HO8.out.lt g hg).1; clear hown6 hgrow6))
              go_roundw
              case rel => exact ⟨i + 1, true, U ++ [R] ++ [q], by omega, by go_num, rfl, Lib.hid (by show World.ownsRow _ _ _ _ _ _ _; rw [HRRQ2.out]; exact HO7.out), HNO2, HPU2, HU2, HB7⟩
              case measure => simp [intOf]; omega
          · have HPU2 : Hid (true = (K.take (i + 1)).any (firstX R)) := by
              show _ = _
              rw [HAN.out, ← HPU.out, Bool.true_or]
            have HU2 : Hid (U ++ [q] = if true = true then insX R (K.take (i + 1)) else K.take (i + 1)) := by
              show _ = _
              rw [if_pos rfl, HTS.out, ins_snoc HPU.out.symm, HU.out]
              rfl
            go_upto_region 11 with (fail)
            refine wp_region_quiet_below (by kernel_rfl) (by kernel_rfl) ?_
            (first | go_big_quiet_step (fail) | quiet_step (fail))
            (first | go_big_quiet_step (fail) | quiet_step (fail))
            (first | go_big_quiet_step (fail) | quiet_step (fail))
            (first | go_big_quiet_step (fail) | quiet_step (fail))
            (first | go_big_quiet_step (fail) | quiet_step (fail))
            (first | go_big_quiet_step (fail) | quiet_step (fail))
            (first | go_big_quiet_step (fail) | quiet_step (fail))
            (first | go_big_quiet_step (fail) | quiet_step (fail))
            (first | go_big_quiet_step (fail) | quiet_step (fail))
            (first | go_big_quiet_step (fail) | quiet_step (fail))
            refine wpQuiet_nil ?_
            intro w9 hw9
            obtain ⟨⟨dq, osq⟩, rfl⟩ := hw9
            have HBB := Lib.hid ((HBA.out).trans ((below_regrown wa dq osq).mono (HBA.out).size))
            have HOB := Lib.hid (ownk_below HOA.out (below_regrown wa dq osq) (Nat.le_refl _))
            generalize Sort.grow (redrawn wa dq) osq = wb at *
            go_wp2_with (first | (refine wpList_load_atA rfl 28 _ rfl (ad.add (i * 9)) rfl CQ _ (HKA.out _ HBB.out) Try.underlying28 rfl (by rw [HSQ.out]; kernel_rfl) ?_) | (refine wpList_build_one rfl 24 28 _ rfl CQ rfl Try.underlying24 9 (by decide) (by decide) (by kernel_rfl) HSQ.out ?_) | (at_builtin; refine wpList_append_elem rfl _ _ 24 rfl w2.heap.size 28 i0 _ 9 24 Try.underlying24 q0 q1 q2 q3 rfl (by decide) _ (i + 1) (rowsOf roA U) rfl (ownk_below HOB.out ((Below.refl _ _).alloc (Nat.le_refl _) _) (Nat.le_refl _)) _ 1 CQ _ _ rfl (heap_alloc_new _ _) HSQ.out CQ1.out (by unfold maxLen; omega) (by omega) (by have := HBB.out.size; simp; omega) ?_; intro v8 w8 hown6 hgrow6 _; have HO8 := Lib.hid hown6; have HB8 : Hid (Below w2.heap.size w2 w8) := (HBB.out.alloc HBB.out.size _).grown hgrow6 (by have := HBB.out.size; simp; omega) fun g hg => (HOB.out.lt g hg).1; clear hown6 hgrow6))
            go_roundw
            case rel => exact ⟨i + 1, true, U ++ [q], by omega, by go_num, rfl, Lib.hid (by show World.ownsRow _ _ _ _ _ _ _; rw [HRQ2.out]; exact HO8.out), HNO2, HPU2, HU2, HB8⟩
            case measure => simp [intOf]; omega
      · rw [decide_eq_false hnet] at heq
        have HNO2 := Lib.hid (no_next HNO.out HQ.out (decide_eq_false fun h => hnet h.1))
        clear hnet
        go_upto_region 9 with (fail)
        refine wp_region_quiet_below (by kernel_rfl) (by kernel_rfl) ?_
        (first | go_big_quiet_step (fail) | quiet_step (fail))
        (first | go_big_quiet_step (fail) | quiet_step (fail))
        (first | go_big_quiet_step (fail) | quiet_step (fail))
        (first | go_big_quiet_step (fail) | quiet_step (fail))
        (refine wpQuiet_step (fun K hK => ?_); refine quiet_load_at (by kernel_rfl) 26 _ rfl (ad.add (i * 9)) (by first | rfl | (simp [Act.eval, Addr.add_mid])) CN _ KN.out Try.underlying26 rfl (by rw [HSN.out]; kernel_rfl) ?_; refine hK _ ?_; clear hK K; go_frame)
        (first | go_big_quiet_step (fail) | quiet_step (fail))
        (refine wpQuiet_step (fun K hK => ?_); refine quiet_load_at (by kernel_rfl) 26 _ rfl (⟨w.heap.size, 0, none⟩ : Addr) (by first | rfl | (simp [Act.eval, Addr.add_mid])) CT _ KT.out Try.underlying26 rfl (by rw [HST.out]; kernel_rfl) ?_; refine hK _ ?_; clear hK K; go_frame)
        (first | go_big_quiet_step (fail) | quiet_step (fail))
        (first | go_big_quiet_step (fail) | quiet_step (fail))
        (first | go_big_quiet_step (fail) | quiet_step (fail))
        (first | go_big_quiet_step (fail) | quiet_step (fail))
        (first | go_big_quiet_step (fail) | quiet_step (fail))
        (first | go_big_quiet_step (fail) | quiet_step (fail))
        (first | go_big_quiet_step (fail) | quiet_step (fail))
        (first | go_big_quiet_step (fail) | quiet_step (fail))
        (first | go_big_quiet_step (fail) | quiet_step (fail))
        (first | go_big_quiet_step (fail) | quiet_step (fail))
        (first | go_big_quiet_step (fail) | quiet_step (fail))
        refine wpQuiet_nil ?_
        intro w9 hw9
        obtain ⟨⟨dq, osq⟩, rfl⟩ := hw9
        have HBA := Lib.hid ((HBW.out).trans ((below_regrown wr dq osq).mono (HBW.out).size))
        have HOA := Lib.hid (ownk_below HOW.out (below_regrown wr dq osq) (Nat.le_refl _))
        generalize Sort.grow (redrawn wr dq) osq = wa at *
        clear heq
        cases put
        · cases hf : firstX R q
          · have HPU2 : Hid (false = (K.take (i + 1)).any (firstX R)) := by
              show _ = _
              rw [HAN.out, ← HPU.out, hf]
              rfl
            have HU2 : Hid (U ++ [q] = if false = true then insX R (K.take (i + 1)) else K.take (i + 1)) := by
              show _ = _
              rw [if_neg (by decide), HTS.out, HU.out]
              rfl
            rw [hf] at HFI
            clear hf
            have KQ := Lib.hid (fun w' (hr : Reg wa w') => all_step HKA.out HBA.out w' (reg_below hr))
            have KR := Lib.hid (fun w' (hr : Reg wa w') => all_step HKX.out HBA.out w' (reg_below hr))
            go_upto_region 11 with (fail)
            refine wp_region_quiet_below (by kernel_rfl) (by kernel_rfl) ?_
            (first | go_big_quiet_step (fail) | quiet_step (fail))
            (first | go_big_quiet_step (fail) | quiet_step (fail))
            (first | go_big_quiet_step (fail) | quiet_step (fail))
            (refine wpQuiet_step (fun K hK => ?_); refine quiet_load_at (by kernel_rfl) 28 _ rfl (⟨w.heap.size, 0, none⟩ : Addr) (by first | rfl | (simp [Act.eval, Addr.add_mid])) CR _ KR.out Try.underlying28 rfl (by rw [HSR.out]; kernel_rfl) ?_; refine hK _ ?_; clear hK K; go_frame)
            (first | go_big_quiet_step (fail) | quiet_step (fail))
            (first | go_big_quiet_step (fail) | quiet_step (fail))
            (first | go_big_quiet_step (fail) | quiet_step (fail))
            (refine wpQuiet_step (fun K hK => ?_); refine quiet_load_at (by kernel_rfl) 28 _ rfl (ad.add (i * 9)) (by first | rfl | (simp [Act.eval, Addr.add_mid])) CQ _ KQ.out Try.underlying28 rfl (by rw [HSQ.out]; kernel_rfl) ?_; refine hK _ ?_; clear hK K; go_frame)
            quiet_step (first | (go_at_call 26; exact Calls.regrown_of (HFI.out _)))
            (first | go_big_quiet_step (fail) | quiet_step (fail))
            refine wpQuiet_nil ?_
            intro w9 hw9
            obtain ⟨⟨dq, osq⟩, rfl⟩ := hw9
            have HBB := Lib.hid ((HBA.out).trans ((below_regrown wa dq osq).mono (HBA.out).size))
            have HOB := Lib.hid (ownk_below HOA.out (below_regrown wa dq osq) (Nat.le_refl _))
            generalize Sort.grow (redrawn wa dq) osq = wb at *
            go_wp2_with (first | (refine wpList_load_atA rfl 28 _ rfl (ad.add (i * 9)) rfl CQ _ (HKA.out _ HBB.out) Try.underlying28 rfl (by rw [HSQ.out]; kernel_rfl) ?_) | (refine wpList_build_one rfl 24 28 _ rfl CQ rfl Try.underlying24 9 (by decide) (by decide) (by kernel_rfl) HSQ.out ?_) | (at_builtin; refine wpList_append_elem rfl _ _ 24 rfl w2.heap.size 28 i0 _ 9 24 Try.underlying24 q0 q1 q2 q3 rfl (by decide) _ i (rowsOf roA U) rfl (ownk_below HOB.out ((Below.refl _ _).alloc (Nat.le_refl _) _) (Nat.le_refl _)) _ 1 CQ _ _ rfl (heap_alloc_new _ _) HSQ.out CQ1.out (by unfold maxLen; omega) (by omega) (by have := HBB.out.size; simp; omega) ?_; intro v8 w8 hown6 hgrow6 _; have HO8 := Lib.hid hown6; have HB8 : Hid (Below w2.heap.size w2 w8) := (HBB.out.alloc HBB.out.size _).grown hgrow6 (by have := HBB.out.size; simp; omega) fun g hg => (HOB.out.lt g hg).1; clear hown6 hgrow6))
            go_roundw
            case rel => exact ⟨i + 1, false, U ++ [q], by omega, by go_num, rfl, Lib.hid (by show World.ownsRow _ _ _ _ _ _ _; rw [HRQ2.out]; exact HO8.out), HNO2, HPU2, HU2, HB8⟩
            case measure => simp [intOf]; omega
          · have HPU2 : Hid (true = (K.take (i + 1)).any (firstX R)) := by
              show _ = _
              rw [HAN.out, hf, Bool.or_true]
            have HU2 : Hid (U ++ [R] ++ [q] = if true = true then insX R (K.take (i + 1)) else K.take (i + 1)) := by
              show _ = _
              rw [if_pos rfl, HTS.out, ins_here HPU.out.symm hf, HU.out]
              rfl
            rw [hf] at HFI
            clear hf
            have KQ := Lib.hid (fun w' (hr : Reg wa w') => all_step HKA.out HBA.out w' (reg_below hr))
            have KR := Lib.hid (fun w' (hr : Reg wa w') => all_step HKX.out HBA.out w' (reg_below hr))
            go_upto_region 11 with (fail)
            refine wp_region_quiet_below (by kernel_rfl) (by kernel_rfl) ?_
            (first | go_big_quiet_step (fail) | quiet_step (fail))
            (first | go_big_quiet_step (fail) | quiet_step (fail))
            (first | go_big_quiet_step (fail) | quiet_step (fail))
            (refine wpQuiet_step (fun K hK => ?_); refine quiet_load_at (by kernel_rfl) 28 _ rfl (⟨w.heap.size, 0, none⟩ : Addr) (by first | rfl | (simp [Act.eval, Addr.add_mid])) CR _ KR.out Try.underlying28 rfl (by rw [HSR.out]; kernel_rfl) ?_; refine hK _ ?_; clear hK K; go_frame)
            (first | go_big_quiet_step (fail) | quiet_step (fail))
            (first | go_big_quiet_step (fail) | quiet_step (fail))
            (first | go_big_quiet_step (fail) | quiet_step (fail))
            (refine wpQuiet_step (fun K hK => ?_); refine quiet_load_at (by kernel_rfl) 28 _ rfl (ad.add (i * 9)) (by first | rfl | (simp [Act.eval, Addr.add_mid])) CQ _ KQ.out Try.underlying28 rfl (by rw [HSQ.out]; kernel_rfl) ?_; refine hK _ ?_; clear hK K; go_frame)
            quiet_step (first | (go_at_call 26; exact Calls.regrown_of (HFI.out _)))
            (first | go_big_quiet_step (fail) | quiet_step (fail))
            refine wpQuiet_nil ?_
            intro w9 hw9
            obtain ⟨⟨dq, osq⟩, rfl⟩ := hw9
            have HBB := Lib.hid ((HBA.out).trans ((below_regrown wa dq osq).mono (HBA.out).size))
            have HOB := Lib.hid (ownk_below HOA.out (below_regrown wa dq osq) (Nat.le_refl _))
            generalize Sort.grow (redrawn wa dq) osq = wb at *
            go_upto_region 14 with (first | (first | (refine wpList_load_atA rfl 28 _ rfl (⟨w.heap.size, 0, none⟩ : Addr) rfl CR _ (HKX.out _ HBB.out) Try.underlying28 rfl (by rw [HSR.out]; kernel_rfl) ?_) | (refine wpList_build_one rfl 24 28 _ rfl CR rfl Try.underlying24 9 (by decide) (by decide) (by kernel_rfl) HSR.out ?_) | (at_builtin; refine wpList_append_elem rfl _ _ 24 rfl w2.heap.size 28 i0 _ 9 24 Try.underlying24 q0 q1 q2 q3 rfl (by decide) _ i (rowsOf roA U) rfl (ownk_below HOB.out ((Below.refl _ _).alloc (Nat.le_refl _) _) (Nat.le_refl _)) _ 1 CR _ _ rfl (heap_alloc_new _ _) HSR.out CR1.out (by unfold maxLen; omega) (by omega) (by have := HBB.out.size; simp; omega) ?_; intro v8 w8 hown6 hgrow6 _; have HO8 := Lib.hid hown6; have HB8 : Hid (Below w2.heap.size w2 w8) := (HBB.out.alloc HBB.out.size _).grown hgrow6 (by have := HBB.out.size; simp; omega) fun g hg => (HOB.out.lt g hg).1; clear hown6 hgrow6)) | go_in)
            rw [← HRR2.out] at HO8
            go_wp2_with (first | (refine wpList_load_atA rfl 28 _ rfl (ad.add (i * 9)) rfl CQ _ (HKA.out _ HB8.out) Try.underlying28 rfl (by rw [HSQ.out]; kernel_rfl) ?_) | (refine wpList_build_one rfl 24 28 _ rfl CQ rfl Try.underlying24 9 (by decide) (by decide) (by kernel_rfl) HSQ.out ?_) | (at_builtin; refine wpList_append_elem rfl _ _ 24 rfl w2.heap.size 28 i0 _ 9 24 Try.underlying24 q0 q1 q2 q3 rfl (by decide) _ (i + 1) (rowsOf roA (U ++ [R])) rfl (ownk_below HO8.out ((Below.refl _ _).alloc (Nat.le_refl _) _) (Nat.le_refl _)) _ 1 CQ _ _ rfl (heap_alloc_new _ _) HSQ.out CQ1.out (by unfold maxLen; omega) (by omega) (by have := HB8.out.size; simp; omega) ?_; intro v7 w7 hown6 hgrow6 _; have HO7 := Lib.hid hown6; have HB7 : Hid (Below w2.heap.size w2 w7) := (HB8.out.alloc HB8.out.size _).grown hgrow6 (by have := HB8.out.size; simp; omega) fun g hg => (HO8.out.lt g hg).1; clear hown6 hgrow6))
            go_roundw
            case rel => exact ⟨i + 1, true, U ++ [R] ++ [q], by omega, by go_num, rfl, Lib.hid (by show World.ownsRow _ _ _ _ _ _ _; rw [HRRQ2.out]; exact HO7.out), HNO2, HPU2, HU2, HB7⟩
            case measure => simp [intOf]; omega
        · have HPU2 : Hid (true = (K.take (i + 1)).any (firstX R)) := by
            show _ = _
            rw [HAN.out, ← HPU.out, Bool.true_or]
          have HU2 : Hid (U ++ [q] = if true = true then insX R (K.take (i + 1)) else K.take (i + 1)) := by
            show _ = _
            rw [if_pos rfl, HTS.out, ins_snoc HPU.out.symm, HU.out]
            rfl
          go_upto_region 11 with (fail)
          refine wp_region_quiet_below (by kernel_rfl) (by kernel_rfl) ?_
          (first | go_big_quiet_step (fail) | quiet_step (fail))
          (first | go_big_quiet_step (fail) | quiet_step (fail))
          (first | go_big_quiet_step (fail) | quiet_step (fail))
          (first | go_big_quiet_step (fail) | quiet_step (fail))
          (first | go_big_quiet_step (fail) | quiet_step (fail))
          (first | go_big_quiet_step (fail) | quiet_step (fail))
          (first | go_big_quiet_step (fail) | quiet_step (fail))
          (first | go_big_quiet_step (fail) | quiet_step (fail))
          (first | go_big_quiet_step (fail) | quiet_step (fail))
          (first | go_big_quiet_step (fail) | quiet_step (fail))
          refine wpQuiet_nil ?_
          intro w9 hw9
          obtain ⟨⟨dq, osq⟩, rfl⟩ := hw9
          have HBB := Lib.hid ((HBA.out).trans ((below_regrown wa dq osq).mono (HBA.out).size))
          have HOB := Lib.hid (ownk_below HOA.out (below_regrown wa dq osq) (Nat.le_refl _))
          generalize Sort.grow (redrawn wa dq) osq = wb at *
          go_wp2_with (first | (refine wpList_load_atA rfl 28 _ rfl (ad.add (i * 9)) rfl CQ _ (HKA.out _ HBB.out) Try.underlying28 rfl (by rw [HSQ.out]; kernel_rfl) ?_) | (refine wpList_build_one rfl 24 28 _ rfl CQ rfl Try.underlying24 9 (by decide) (by decide) (by kernel_rfl) HSQ.out ?_) | (at_builtin; refine wpList_append_elem rfl _ _ 24 rfl w2.heap.size 28 i0 _ 9 24 Try.underlying24 q0 q1 q2 q3 rfl (by decide) _ (i + 1) (rowsOf roA U) rfl (ownk_below HOB.out ((Below.refl _ _).alloc (Nat.le_refl _) _) (Nat.le_refl _)) _ 1 CQ _ _ rfl (heap_alloc_new _ _) HSQ.out CQ1.out (by unfold maxLen; omega) (by omega) (by have := HBB.out.size; simp; omega) ?_; intro v8 w8 hown6 hgrow6 _; have HO8 := Lib.hid hown6; have HB8 : Hid (Below w2.heap.size w2 w8) := (HBB.out.alloc HBB.out.size _).grown hgrow6 (by have := HBB.out.size; simp; omega) fun g hg => (HOB.out.lt g hg).1; clear hown6 hgrow6))
          go_roundw
          case rel => exact ⟨i + 1, true, U ++ [q], by omega, by go_num, rfl, Lib.hid (by show World.ownsRow _ _ _ _ _ _ _; rw [HRQ2.out]; exact HO8.out), HNO2, HPU2, HU2, HB8⟩
          case measure => simp [intOf]; omega
    · obtain rfl : i = n := by omega
      have HAY : Hid (K.any (isR R.net (b : Int)) = false) := any_no fun j h hj => HNO.out j h (by rw [HN.out] at hj; exact hj)
      have HTK : Hid (K.take i = K) := List.take_of_length_le (Nat.le_of_eq HN.out)
      rw [HTK.out] at HPU HU
      have HL : Hid (U.length = i + put.toNat) := by
        have h1 := HOW.out.1
        rw [rows_length roE] at h1
        show _ = _
        omega
      have HXR := Lib.hid (var_all HX2.out _ HBW.out)
      have HSR : Hid ((roA R).size = 9) := roE.size _
      have CR1 : Hid (∀ u ∈ (roA R).toList, u.oneCell' = true) := el_ones roE R
      have HRR : Hid (rowsOf roA (U ++ [R]) = rowsOf roA U ++ (roA R).toList) := by show _ = _; rw [rows_append, rows_one_el]
      have HI1 : Hid (U = insX R K ∨ U ++ [R] = insX R K) := by
        rw [HU.out]
        cases put
        · exact .inr (ins_none HPU.out.symm).symm
        · exact .inl rfl
      obtain ⟨CR, hCR⟩ : ∃ CR, roA R = CR := ⟨_, rfl⟩
      rw [hCR] at HXR HSR CR1 HRR
      obtain ⟨i0, q0, q1, q2, q3⟩ := info_ro9
      clear hCR
      cases put
      · have HIN : Hid (insX R K = U ++ [R]) := by
          show _ = _
          rw [ins_none HPU.out.symm, HU.out]
          rfl
        clear HI1
        by_cases h8 : 8 ≤ i
        · have HV5 : Hid (addX K r = (K, 5)) := by
            show _ = _
            rw [HRES.out, HAY.out, if_neg (by decide), if_pos h8]
          go_wp2_with (first | (refine wpList_load_atA rfl 28 _ rfl (⟨w.heap.size, 0, none⟩ : Addr) rfl CR _ HXR.out Try.underlying28 rfl (by rw [HSR.out]; kernel_rfl) ?_) | (refine wpList_build_one rfl 24 28 _ rfl CR rfl Try.underlying24 9 (by decide) (by decide) (by kernel_rfl) HSR.out ?_) | (at_builtin; refine wpList_append_elem rfl _ _ 24 rfl w2.heap.size 28 i0 _ 9 24 Try.underlying24 q0 q1 q2 q3 rfl (by decide) _ i (rowsOf roA U) rfl (ownk_below HOW.out ((Below.refl _ _).alloc (Nat.le_refl _) _) (Nat.le_refl _)) _ 1 CR _ _ rfl (heap_alloc_new _ _) HSR.out CR1.out (by unfold maxLen; omega) (by omega) (by have := HBW.out.size; simp; omega) ?_; intro v8 w8 hown6 hgrow6 _; have HO8 := Lib.hid hown6; have HB8 : Hid (Below w2.heap.size w2 w8) := (HBW.out.alloc HBW.out.size _).grown hgrow6 (by have := HBW.out.size; simp; omega) fun g hg => (HOW.out.lt g hg).1; clear hown6 hgrow6; obtain ⟨A8, c8, rfl, h8c, hc8, -⟩ := ownk_form HO8.out; have hc8b : c8 ≤ 9223372036854775807 := by unfold maxLen at hc8; omega))
          refine ret_tmp2 rfl rfl ?_
          rw [HV5.out]
          have HBZ := HB2.out.trans (HB8.out.mono HB2.out.size)
          exact ⟨_, rfl, HV.out.below HBZ, HBZ⟩
        · have HV0 : Hid (addX K r = (insX R K, 0)) := by
            show _ = _
            rw [HRES.out, HAY.out, if_neg (by decide), if_neg h8]
          go_wp2_with (first | (refine wpList_load_atA rfl 28 _ rfl (⟨w.heap.size, 0, none⟩ : Addr) rfl CR _ HXR.out Try.underlying28 rfl (by rw [HSR.out]; kernel_rfl) ?_) | (refine wpList_build_one rfl 24 28 _ rfl CR rfl Try.underlying24 9 (by decide) (by decide) (by kernel_rfl) HSR.out ?_) | (at_builtin; refine wpList_append_elem rfl _ _ 24 rfl w2.heap.size 28 i0 _ 9 24 Try.underlying24 q0 q1 q2 q3 rfl (by decide) _ i (rowsOf roA U) rfl (ownk_below HOW.out ((Below.refl _ _).alloc (Nat.le_refl _) _) (Nat.le_refl _)) _ 1 CR _ _ rfl (heap_alloc_new _ _) HSR.out CR1.out (by unfold maxLen; omega) (by omega) (by have := HBW.out.size; simp; omega) ?_; intro v8 w8 hown6 hgrow6 _; have HO8 := Lib.hid hown6; have HB8 : Hid (Below w2.heap.size w2 w8) := (HBW.out.alloc HBW.out.size _).grown hgrow6 (by have := HBW.out.size; simp; omega) fun g hg => (HOW.out.lt g hg).1; clear hown6 hgrow6; obtain ⟨A8, c8, rfl, h8c, hc8, -⟩ := ownk_form HO8.out; have hc8b : c8 ≤ 9223372036854775807 := by unfold maxLen at hc8; omega))
          refine ret_tmp2 rfl rfl ?_
          rw [HV0.out]
          have HBZ := HB2.out.trans (HB8.out.mono HB2.out.size)
          refine ⟨_, rfl, ?_, HBZ⟩
          rw [HIN.out]
          refine SlT.own (base := w2.heap.size) (k := 9) (e := 28) (K := U ++ [R]) ?_
          have := HO8.out
          rw [← HRR.out] at this
          rw [List.length_append, HL.out]
          exact this
      · have HIN : Hid (insX R K = U) := by
          show _ = _
          rw [HU.out]
          rfl
        clear HI1
        obtain ⟨A6, c6, rfl, h6c, hc6, -⟩ := ownk_form HOW.out
        have hc6b : c6 ≤ 9223372036854775807 := by unfold maxLen at hc6; omega
        clear hc6
        by_cases h8 : 8 ≤ i
        · have HV5 : Hid (addX K r = (K, 5)) := by
            show _ = _
            rw [HRES.out, HAY.out, if_neg (by decide), if_pos h8]
          go_wp2
          refine ret_tmp2 rfl rfl ?_
          rw [HV5.out]
          exact ⟨_, rfl, HV.out.below HBV.out, HBV.out⟩
        · have HV0 : Hid (addX K r = (insX R K, 0)) := by
            show _ = _
            rw [HRES.out, HAY.out, if_neg (by decide), if_neg h8]
          go_wp2
          refine ret_tmp2 rfl rfl ?_
          rw [HV0.out]
          refine ⟨_, rfl, ?_, HBV.out⟩
          rw [HIN.out]
          refine SlT.own (base := w2.heap.size) (k := 9) (e := 28) (K := U) ?_
          rw [HL.out]
          exact HOW.out
/-- the document's Add -/
theorem refadd_any (v : Value) (K : List Ro) (r : Ro) (w : World) (hv : RoT w v K) (hl : K.length ≤ 1000) :
    Calls Try.prog 12 #[v, .agg (roA r)] w fun e w' => ∃ v', e = .returned (.tuple #[v', .int .i64 (addX K r).2]) ∧ RoT w' v' (addX K r).1 ∧ Below w.heap.size w w' := by
  by_cases hb : r.bits < 0 ∨ 32 < r.bits
  · exact refadd_bits v K r w hv hb
  · obtain ⟨b, hb2⟩ : ∃ b : Nat, r.bits = (b : Int) := Int.eq_ofNat_of_zero_le (by omega)
    exact refadd_good v K r b w hv hl hb2 (by omega)
end Go.Proofs.Ytfifigokglmjlaa
