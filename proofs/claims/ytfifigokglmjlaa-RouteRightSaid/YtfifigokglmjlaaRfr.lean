/-
  The document's Right of routes. Every slice of routes.
-/
import Derived.Test.YtfifigokglmjlaaRff
namespace Go.Proofs.Ytfifigokglmjlaa
open Go.RowKit

/-- may a route stand behind another one (or first)? -/
def okR (p : Option Ro) (r : Ro) : Bool := decide (0 ≤ r.bits ∧ r.bits ≤ 32 ∧ maskX r.net r.bits.toNat = r.net) && (match p with | none => true | some q => firstX q r)
def okI (K : List Ro) (i : Nat) : Bool := match K[i]? with
  | none => true
  | some r => okR (if i = 0 then none else K[i - 1]?) r
def rightX (K : List Ro) : Bool := (List.range K.length).all (okI K) && decide (K.length ≤ 8)
theorem okI_at {K : List Ro} {i : Nat} {r : Ro} (h : K[i]? = some r) : okI K i = okR (if i = 0 then none else K[i - 1]?) r := by
  unfold okI
  rw [h]
theorem right_false {K : List Ro} {i : Nat} {r : Ro} (h : K[i]? = some r) (hn : okI K i = false) : rightX K = false := by
  unfold rightX
  have hi := (List.getElem?_eq_some_iff.1 h).1
  have : (List.range K.length).all (okI K) = false := by
    refine Bool.eq_false_iff.2 fun hc => ?_
    rw [List.all_eq_true] at hc
    have := hc i (List.mem_range.2 hi)
    rw [hn] at this
    cases this
  rw [this]
  rfl
theorem right_end {K : List Ro} (h : ∀ j, j < K.length → okI K j = true) : rightX K = decide (K.length ≤ 8) := by
  unfold rightX
  have : (List.range K.length).all (okI K) = true := by
    rw [List.all_eq_true]
    exact fun j hj => h j (List.mem_range.1 hj)
  rw [this]
  rfl
theorem okR_bits {p : Option Ro} {r : Ro} (h : r.bits < 0 ∨ 32 < r.bits ∨ maskX r.net r.bits.toNat ≠ r.net) : okR p r = false := by
  unfold okR
  rw [decide_eq_false (fun hc => by rcases h with h | h | h <;> first | omega | exact h hc.2.2)]
  rfl
theorem okR_good {p : Option Ro} {r : Ro} (h0 : 0 ≤ r.bits) (h1 : r.bits ≤ 32) (h2 : maskX r.net r.bits.toNat = r.net) : okR p r = (match p with | none => true | some q => firstX q r) := by
  unfold okR
  rw [decide_eq_true ⟨h0, h1, h2⟩]
  rfl
set_option maxRecDepth 100000 in
set_option maxHeartbeats 8000000 in
theorem refright_any (v : Value) (K : List Ro) (w : World) (hv : RoT w v K) (hl : K.length ≤ 140737488351232) : Calls Try.prog 14 #[v] w fun e w' => e = .returned (.bool (rightX K)) ∧ Below w.heap.size w w' := by
  obtain ⟨A, c, rfl, htr, hA, hnc, hcm⟩ := hv
  obtain ⟨n, hnn⟩ : ∃ n, K.length = n := ⟨_, rfl⟩
  rw [hnn] at hl hnc ⊢
  have hcm2 : c ≤ 9223372036854775807 := by unfold maxLen at hcm; omega
  have HTR := Lib.hid htr
  have HN := Lib.hid hnn
  clear hnn htr hA hcm
  go_enter Try.func14, Try.ntmps14
  go_wp2
  go_loopw [3] (fun t3 wr => ∃ i : Nat, i ≤ n ∧ t3 = .int .i64 (i : Int) ∧ Hid (∀ j, j < i → okI K j = true) ∧ Hid (Below w.heap.size w wr)) (fun t3 _ => n - (intOf t3).toNat)
  case atStart => exact ⟨0, Nat.zero_le _, rfl, Lib.hid (fun j hj => by omega), Lib.hid (Below.refl _ _)⟩
  case round =>
    obtain ⟨i, hi, rfl, HOK, HBW⟩ := hrel
    by_cases hlt : i < n
    · obtain ⟨r, hr⟩ : ∃ r, K[i]? = some r := ⟨_, List.getElem?_eq_getElem (by rw [HN.out]; exact hlt)⟩
      have HR := Lib.hid hr
      have HTW := Lib.hid (HTR.out.below HBW.out (Nat.le_refl _))
      obtain ⟨ad, rfl, hKA⟩ := el_all roE HTW.out (by omega) hr
      have HKA := Lib.hid hKA
      have A4 := Lib.hid (all_cell (o := 4) HKA.out (roA_bits r))
      have AN := Lib.hid (all_part0 HKA.out (roA_net r))
      clear hKA hr
      rcases Int.lt_or_le r.bits 0 with h0 | h0
      · have HV : Hid (rightX K = false) := right_false HR.out ((okI_at HR.out).trans (okR_bits (.inl h0)))
        obtain ⟨z, hz⟩ : ∃ z, r.bits = z := ⟨_, rfl⟩
        rw [hz] at A4 h0
        clear HKA AN
        go_upto_region 4 with (fail)
        refine wp_region_quiet_below (by kernel_rfl) (by kernel_rfl) ?_
        (first | go_big_quiet_step (fail) | quiet_step (fail))
        (first | go_big_quiet_step (fail) | quiet_step (fail))
        (first | go_big_quiet_step (fail) | quiet_step (fail))
        (first | go_big_quiet_step (fail) | quiet_step (fail))
        (refine wpQuiet_step (fun K hK => ?_); refine quiet_load_cell (by kernel_rfl) 3 _ rfl ((ad.add (i * 9)).add 4) (by first | rfl | (simp [Act.eval, Addr.add_mid])) (.int .i64 z) _ A4.out Try.underlying3 rfl ?_; refine hK _ ?_; clear hK K; go_frame)
        (first | go_big_quiet_step (fail) | quiet_step (fail))
        (first | go_big_quiet_step (fail) | quiet_step (fail))
        (first | go_big_quiet_step (fail) | quiet_step (fail))
        (first | go_big_quiet_step (fail) | quiet_step (fail))
        (first | go_big_quiet_step (fail) | quiet_step (fail))
        (first | go_big_quiet_step (fail) | quiet_step (fail))
        (first | go_big_quiet_step (fail) | quiet_step (fail))
        (first | go_big_quiet_step (fail) | quiet_step (fail))
        (first | go_big_quiet_step (fail) | quiet_step (fail))
        (first | go_big_quiet_step (fail) | quiet_step (fail))
        (first | go_big_quiet_step (fail) | quiet_step (fail))
        (first | go_big_quiet_step (fail) | quiet_step (fail))
        (first | go_big_quiet_step (fail) | quiet_step (fail))
        (first | go_big_quiet_step (fail) | quiet_step (fail))
        (first | go_big_quiet_step (fail) | quiet_step (fail))
        (first | go_big_quiet_step (fail) | quiet_step (fail))
        (first | go_big_quiet_step (fail) | quiet_step (fail))
        (first | go_big_quiet_step (fail) | quiet_step (fail))
        (first | go_big_quiet_step (fail) | quiet_step (fail))
        (first | go_big_quiet_step (fail) | quiet_step (fail))
        (first | go_big_quiet_step (fail) | quiet_step (fail))
        (first | go_big_quiet_step (fail) | quiet_step (fail))
        (first | go_big_quiet_step (fail) | quiet_step (fail))
        (first | go_big_quiet_step (fail) | quiet_step (fail))
        (first | go_big_quiet_step (fail) | quiet_step (fail))
        (first | go_big_quiet_step (fail) | quiet_step (fail))
        (first | go_big_quiet_step (fail) | quiet_step (fail))
        (first | go_big_quiet_step (fail) | quiet_step (fail))
        (first | go_big_quiet_step (fail) | quiet_step (fail))
        (first | go_big_quiet_step (fail) | quiet_step (fail))
        (first | go_big_quiet_step (fail) | quiet_step (fail))
        (first | go_big_quiet_step (fail) | quiet_step (fail))
        (first | go_big_quiet_step (fail) | quiet_step (fail))
        (first | go_big_quiet_step (fail) | quiet_step (fail))
        (first | go_big_quiet_step (fail) | quiet_step (fail))
        (first | go_big_quiet_step (fail) | quiet_step (fail))
        (first | go_big_quiet_step (fail) | quiet_step (fail))
        (first | go_big_quiet_step (fail) | quiet_step (fail))
        (first | go_big_quiet_step (fail) | quiet_step (fail))
        (first | go_big_quiet_step (fail) | quiet_step (fail))
        (first | go_big_quiet_step (fail) | quiet_step (fail))
        (first | go_big_quiet_step (fail) | quiet_step (fail))
        (first | go_big_quiet_step (fail) | quiet_step (fail))
        (first | go_big_quiet_step (fail) | quiet_step (fail))
        (first | go_big_quiet_step (fail) | quiet_step (fail))
        refine wpQuiet_nil ?_
        intro w9 hw9
        obtain ⟨⟨dq, osq⟩, rfl⟩ := hw9
        have HB9 := Lib.hid ((HBW.out).trans ((below_regrown wr dq osq).mono (HBW.out).size))
        generalize Sort.grow (redrawn wr dq) osq = w9b at *
        go_wp2
        go_ret
        rw [HV.out]
        exact ⟨rfl, HB9.out⟩
      · rcases Int.lt_or_le 32 r.bits with h32 | h32
        · have HV : Hid (rightX K = false) := right_false HR.out ((okI_at HR.out).trans (okR_bits (.inr (.inl h32))))
          obtain ⟨z, hz⟩ : ∃ z, r.bits = z := ⟨_, rfl⟩
          rw [hz] at A4 h32 h0
          have h0n : ¬ z < 0 := by omega
          clear HKA AN
          go_upto_region 4 with (fail)
          refine wp_region_quiet_below (by kernel_rfl) (by kernel_rfl) ?_
          (first | go_big_quiet_step (fail) | quiet_step (fail))
          (first | go_big_quiet_step (fail) | quiet_step (fail))
          (first | go_big_quiet_step (fail) | quiet_step (fail))
          (first | go_big_quiet_step (fail) | quiet_step (fail))
          (refine wpQuiet_step (fun K hK => ?_); refine quiet_load_cell (by kernel_rfl) 3 _ rfl ((ad.add (i * 9)).add 4) (by first | rfl | (simp [Act.eval, Addr.add_mid])) (.int .i64 z) _ A4.out Try.underlying3 rfl ?_; refine hK _ ?_; clear hK K; go_frame)
          (first | go_big_quiet_step (fail) | quiet_step (fail))
          (first | go_big_quiet_step (fail) | quiet_step (fail))
          (first | go_big_quiet_step (fail) | quiet_step (fail))
          (first | go_big_quiet_step (fail) | quiet_step (fail))
          (first | go_big_quiet_step (fail) | quiet_step (fail))
          (first | go_big_quiet_step (fail) | quiet_step (fail))
          (refine wpQuiet_step (fun K hK => ?_); refine quiet_load_cell (by kernel_rfl) 3 _ rfl ((ad.add (i * 9)).add 4) (by first | rfl | (simp [Act.eval, Addr.add_mid])) (.int .i64 z) _ A4.out Try.underlying3 rfl ?_; refine hK _ ?_; clear hK K; go_frame)
          (first | go_big_quiet_step (fail) | quiet_step (fail))
          (first | go_big_quiet_step (fail) | quiet_step (fail))
          (first | go_big_quiet_step (fail) | quiet_step (fail))
          (first | go_big_quiet_step (fail) | quiet_step (fail))
          (first | go_big_quiet_step (fail) | quiet_step (fail))
          (first | go_big_quiet_step (fail) | quiet_step (fail))
          (first | go_big_quiet_step (fail) | quiet_step (fail))
          (first | go_big_quiet_step (fail) | quiet_step (fail))
          (first | go_big_quiet_step (fail) | quiet_step (fail))
          (first | go_big_quiet_step (fail) | quiet_step (fail))
          (first | go_big_quiet_step (fail) | quiet_step (fail))
          (first | go_big_quiet_step (fail) | quiet_step (fail))
          (first | go_big_quiet_step (fail) | quiet_step (fail))
          (first | go_big_quiet_step (fail) | quiet_step (fail))
          (first | go_big_quiet_step (fail) | quiet_step (fail))
          (first | go_big_quiet_step (fail) | quiet_step (fail))
          (first | go_big_quiet_step (fail) | quiet_step (fail))
          (first | go_big_quiet_step (fail) | quiet_step (fail))
          (first | go_big_quiet_step (fail) | quiet_step (fail))
          (first | go_big_quiet_step (fail) | quiet_step (fail))
          (first | go_big_quiet_step (fail) | quiet_step (fail))
          (first | go_big_quiet_step (fail) | quiet_step (fail))
          (first | go_big_quiet_step (fail) | quiet_step (fail))
          (first | go_big_quiet_step (fail) | quiet_step (fail))
          (first | go_big_quiet_step (fail) | quiet_step (fail))
          (first | go_big_quiet_step (fail) | quiet_step (fail))
          (first | go_big_quiet_step (fail) | quiet_step (fail))
          (first | go_big_quiet_step (fail) | quiet_step (fail))
          (first | go_big_quiet_step (fail) | quiet_step (fail))
          (first | go_big_quiet_step (fail) | quiet_step (fail))
          (first | go_big_quiet_step (fail) | quiet_step (fail))
          (first | go_big_quiet_step (fail) | quiet_step (fail))
          (first | go_big_quiet_step (fail) | quiet_step (fail))
          (first | go_big_quiet_step (fail) | quiet_step (fail))
          (first | go_big_quiet_step (fail) | quiet_step (fail))
          (first | go_big_quiet_step (fail) | quiet_step (fail))
          (first | go_big_quiet_step (fail) | quiet_step (fail))
          (first | go_big_quiet_step (fail) | quiet_step (fail))
          refine wpQuiet_nil ?_
          intro w9 hw9
          obtain ⟨⟨dq, osq⟩, rfl⟩ := hw9
          have HB9 := Lib.hid ((HBW.out).trans ((below_regrown wr dq osq).mono (HBW.out).size))
          generalize Sort.grow (redrawn wr dq) osq = w9b at *
          go_wp2
          go_ret
          rw [HV.out]
          exact ⟨rfl, HB9.out⟩
        · obtain ⟨b, hb⟩ : ∃ b : Nat, r.bits = (b : Int) := Int.eq_ofNat_of_zero_le h0
          have HMK : Hid (∀ w, Calls Try.prog 25 #[.agg (ipA r.net), .int .i64 (b : Int)] w fun e w' => e = .returned (.agg (ipA (maskX r.net b))) ∧ Below w.heap.size w w') := fun w => mask_any r.net b w (by omega)
          have HEQ : Hid (∀ w, (Op.equalIn 10000 26 (.agg (ipA (maskX r.net b))) (.agg (ipA r.net))).run Try.prog w = .ok (decide (maskX r.net b = r.net)) w) := eq_ip 9998 _ _
          have HB := Lib.hid hb
          have HR4 : Hid (r.bits = (b : Int)) := hb
          rw [hb] at A4 h32 h0
          have hb0 : ¬ (b : Int) < 0 := by omega
          have hb32 : ¬ 32 < (b : Int) := by omega
          obtain ⟨CN, hCN⟩ : ∃ CN, ipA r.net = CN := ⟨_, rfl⟩
          have HCS : Hid (CN.size = 4) := by rw [← hCN]; exact ipE.size _
          obtain ⟨CM, hCM⟩ : ∃ CM, ipA (maskX r.net b) = CM := ⟨_, rfl⟩
          rw [hCN] at AN HMK HEQ
          rw [hCM] at HMK HEQ
          clear hCN hCM hb h0 h32
          by_cases hm : maskX r.net b = r.net
          · have heq := HEQ.out
            rw [decide_eq_true hm] at heq
            have HG : Hid (∀ p, okR p r = (match p with | none => true | some q => firstX q r)) := fun p => okR_good (by rw [HR4.out]; omega) (by rw [HR4.out]; omega) (by rw [HR4.out]; exact hm)
            clear HEQ hm
            rcases Nat.eq_zero_or_pos i with rfl | hi0
            · have HOK2 : Hid (∀ j, j < 0 + 1 → okI K j = true) := fun j hj => by
                obtain rfl : j = 0 := by omega
                rw [okI_at HR.out, HG.out]
                rfl
              clear HKA
              go_upto_region 4 with (fail)
              refine wp_region_quiet_below (by kernel_rfl) (by kernel_rfl) ?_
              (first | go_big_quiet_step (fail) | quiet_step (fail))
              (first | go_big_quiet_step (fail) | quiet_step (fail))
              (first | go_big_quiet_step (fail) | quiet_step (fail))
              (first | go_big_quiet_step (fail) | quiet_step (fail))
              (refine wpQuiet_step (fun K hK => ?_); refine quiet_load_cell (by kernel_rfl) 3 _ rfl ((ad.add (0 * 9)).add 4) (by first | rfl | (simp [Act.eval, Addr.add_mid])) (.int .i64 (b : Int)) _ A4.out Try.underlying3 rfl ?_; refine hK _ ?_; clear hK K; go_frame)
              (first | go_big_quiet_step (fail) | quiet_step (fail))
              (first | go_big_quiet_step (fail) | quiet_step (fail))
              (first | go_big_quiet_step (fail) | quiet_step (fail))
              (first | go_big_quiet_step (fail) | quiet_step (fail))
              (first | go_big_quiet_step (fail) | quiet_step (fail))
              (first | go_big_quiet_step (fail) | quiet_step (fail))
              (refine wpQuiet_step (fun K hK => ?_); refine quiet_load_cell (by kernel_rfl) 3 _ rfl ((ad.add (0 * 9)).add 4) (by first | rfl | (simp [Act.eval, Addr.add_mid])) (.int .i64 (b : Int)) _ A4.out Try.underlying3 rfl ?_; refine hK _ ?_; clear hK K; go_frame)
              (first | go_big_quiet_step (fail) | quiet_step (fail))
              (first | go_big_quiet_step (fail) | quiet_step (fail))
              (first | go_big_quiet_step (fail) | quiet_step (fail))
              (first | go_big_quiet_step (fail) | quiet_step (fail))
              (first | go_big_quiet_step (fail) | quiet_step (fail))
              (first | go_big_quiet_step (fail) | quiet_step (fail))
              (first | go_big_quiet_step (fail) | quiet_step (fail))
              (refine wpQuiet_step (fun K hK => ?_); refine quiet_load_at (by kernel_rfl) 26 _ rfl (ad.add (0 * 9)) (by first | rfl | (simp [Act.eval, Addr.add_mid])) CN _ AN.out Try.underlying26 rfl (by rw [HCS.out]; kernel_rfl) ?_; refine hK _ ?_; clear hK K; go_frame)
              (first | go_big_quiet_step (fail) | quiet_step (fail))
              (first | go_big_quiet_step (fail) | quiet_step (fail))
              (first | go_big_quiet_step (fail) | quiet_step (fail))
              (first | go_big_quiet_step (fail) | quiet_step (fail))
              (refine wpQuiet_step (fun K hK => ?_); refine quiet_load_cell (by kernel_rfl) 3 _ rfl ((ad.add (0 * 9)).add 4) (by first | rfl | (simp [Act.eval, Addr.add_mid])) (.int .i64 (b : Int)) _ A4.out Try.underlying3 rfl ?_; refine hK _ ?_; clear hK K; go_frame)
              quiet_step (first | (go_at_call 25; exact Calls.regrown_of (HMK.out _)))
              (first | go_big_quiet_step (fail) | quiet_step (fail))
              (first | go_big_quiet_step (fail) | quiet_step (fail))
              (first | go_big_quiet_step (fail) | quiet_step (fail))
              (first | go_big_quiet_step (fail) | quiet_step (fail))
              (refine wpQuiet_step (fun K hK => ?_); refine quiet_load_at (by kernel_rfl) 26 _ rfl (ad.add (0 * 9)) (by first | rfl | (simp [Act.eval, Addr.add_mid])) CN _ AN.out Try.underlying26 rfl (by rw [HCS.out]; kernel_rfl) ?_; refine hK _ ?_; clear hK K; go_frame)
              (first | go_big_quiet_step (fail) | quiet_step (fail))
              (first | go_big_quiet_step (fail) | quiet_step (fail))
              (first | go_big_quiet_step (fail) | quiet_step (fail))
              (first | go_big_quiet_step (fail) | quiet_step (fail))
              (first | go_big_quiet_step (fail) | quiet_step (fail))
              (first | go_big_quiet_step (fail) | quiet_step (fail))
              (first | go_big_quiet_step (fail) | quiet_step (fail))
              (first | go_big_quiet_step (fail) | quiet_step (fail))
              (first | go_big_quiet_step (fail) | quiet_step (fail))
              (first | go_big_quiet_step (fail) | quiet_step (fail))
              (first | go_big_quiet_step (fail) | quiet_step (fail))
              (first | go_big_quiet_step (fail) | quiet_step (fail))
              (first | go_big_quiet_step (fail) | quiet_step (fail))
              (first | go_big_quiet_step (fail) | quiet_step (fail))
              (first | go_big_quiet_step (fail) | quiet_step (fail))
              (first | go_big_quiet_step (fail) | quiet_step (fail))
              (first | go_big_quiet_step (fail) | quiet_step (fail))
              (first | go_big_quiet_step (fail) | quiet_step (fail))
              (first | go_big_quiet_step (fail) | quiet_step (fail))
              refine wpQuiet_nil ?_
              intro w9 hw9
              obtain ⟨⟨dq, osq⟩, rfl⟩ := hw9
              have HB9 := Lib.hid ((HBW.out).trans ((below_regrown wr dq osq).mono (HBW.out).size))
              generalize Sort.grow (redrawn wr dq) osq = w9b at *
              go_wp2
              go_roundw
              case rel => exact ⟨0 + 1, by omega, by go_num, HOK2, HB9⟩
              case measure => simp [intOf]; omega
            · obtain ⟨i1, hi1⟩ : ∃ i1, i = i1 + 1 := ⟨i - 1, by omega⟩
              obtain ⟨q, hq⟩ : ∃ q, K[i1]? = some q := ⟨_, List.getElem?_eq_getElem (by rw [HN.out]; omega)⟩
              have HQ := Lib.hid hq
              obtain ⟨ad', had, hKQ⟩ := el_all roE HTW.out (by omega) hq
              injection had with had
              subst had
              have KQ : Hid (∀ w', Reg wr w' → ∀ (j : Nat) v, (roA q)[j]? = some v → w'.cell? ((ad.add (i1 * 9)).add j) = some v) := fun w' hr j v hv => hKQ w' (reg_below hr) j v hv
              have KR : Hid (∀ w', Reg wr w' → ∀ (j : Nat) v, (roA r)[j]? = some v → w'.cell? ((ad.add (i * 9)).add j) = some v) := fun w' hr j v hv => HKA.out w' (reg_below hr) j v hv
              have HFI : Hid (∀ w, Calls Try.prog 26 #[.agg (roA q), .agg (roA r)] w fun e w' => e = .returned (.bool (firstX q r)) ∧ Below w.heap.size w w') := fun w => first_any q r w
              have HPO : Hid (okI K i = firstX q r) := by
                show _ = _
                rw [okI_at HR.out, HG.out, if_neg (by omega), show i - 1 = i1 from by omega, HQ.out]
              have hsub : (i : Int) - 1 = (i1 : Int) := by omega
              have hi10 : (0 : Int) ≤ (i1 : Int) := by omega
              have hi1n : (i1 : Int) < (n : Int) := by omega
              have hi1m : i1 < n := by omega
              obtain ⟨CQ, hCQ⟩ : ∃ CQ, roA q = CQ := ⟨_, rfl⟩
              have HQS : Hid (CQ.size = 9) := by rw [← hCQ]; exact roE.size _
              obtain ⟨CR, hCR⟩ : ∃ CR, roA r = CR := ⟨_, rfl⟩
              have HRS : Hid (CR.size = 9) := by rw [← hCR]; exact roE.size _
              rw [hCQ] at KQ HFI
              rw [hCR] at KR HFI
              have HI1 := Lib.hid hi1
              clear hCQ hCR hq hKQ HKA hi1
              cases hf : firstX q r
              · have HV : Hid (rightX K = false) := right_false HR.out (by rw [HPO.out, hf])
                rw [hf] at HFI
                clear hf
                go_upto_region 4 with (fail)
                refine wp_region_quiet_below (by kernel_rfl) (by kernel_rfl) ?_
                (first | go_big_quiet_step (fail) | quiet_step (fail))
                (first | go_big_quiet_step (fail) | quiet_step (fail))
                (first | go_big_quiet_step (fail) | quiet_step (fail))
                (first | go_big_quiet_step (fail) | quiet_step (fail))
                (refine wpQuiet_step (fun K hK => ?_); refine quiet_load_cell (by kernel_rfl) 3 _ rfl ((ad.add (i * 9)).add 4) (by first | rfl | (simp [Act.eval, Addr.add_mid])) (.int .i64 (b : Int)) _ A4.out Try.underlying3 rfl ?_; refine hK _ ?_; clear hK K; go_frame)
                (first | go_big_quiet_step (fail) | quiet_step (fail))
                (first | go_big_quiet_step (fail) | quiet_step (fail))
                (first | go_big_quiet_step (fail) | quiet_step (fail))
                (first | go_big_quiet_step (fail) | quiet_step (fail))
                (first | go_big_quiet_step (fail) | quiet_step (fail))
                (first | go_big_quiet_step (fail) | quiet_step (fail))
                (refine wpQuiet_step (fun K hK => ?_); refine quiet_load_cell (by kernel_rfl) 3 _ rfl ((ad.add (i * 9)).add 4) (by first | rfl | (simp [Act.eval, Addr.add_mid])) (.int .i64 (b : Int)) _ A4.out Try.underlying3 rfl ?_; refine hK _ ?_; clear hK K; go_frame)
                (first | go_big_quiet_step (fail) | quiet_step (fail))
                (first | go_big_quiet_step (fail) | quiet_step (fail))
                (first | go_big_quiet_step (fail) | quiet_step (fail))
                (first | go_big_quiet_step (fail) | quiet_step (fail))
                (first | go_big_quiet_step (fail) | quiet_step (fail))
                (first | go_big_quiet_step (fail) | quiet_step (fail))
                (first | go_big_quiet_step (fail) | quiet_step (fail))
                (refine wpQuiet_step (fun K hK => ?_); refine quiet_load_at (by kernel_rfl) 26 _ rfl (ad.add (i * 9)) (by first | rfl | (simp [Act.eval, Addr.add_mid])) CN _ AN.out Try.underlying26 rfl (by rw [HCS.out]; kernel_rfl) ?_; refine hK _ ?_; clear hK K; go_frame)
                (first | go_big_quiet_step (fail) | quiet_step (fail))
                (first | go_big_quiet_step (fail) | quiet_step (fail))
                (first | go_big_quiet_step (fail) | quiet_step (fail))
                (first | go_big_quiet_step (fail) | quiet_step (fail))
                (refine wpQuiet_step (fun K hK => ?_); refine quiet_load_cell (by kernel_rfl) 3 _ rfl ((ad.add (i * 9)).add 4) (by first | rfl | (simp [Act.eval, Addr.add_mid])) (.int .i64 (b : Int)) _ A4.out Try.underlying3 rfl ?_; refine hK _ ?_; clear hK K; go_frame)
                quiet_step (first | (go_at_call 25; exact Calls.regrown_of (HMK.out _)))
                (first | go_big_quiet_step (fail) | quiet_step (fail))
                (first | go_big_quiet_step (fail) | quiet_step (fail))
                (first | go_big_quiet_step (fail) | quiet_step (fail))
                (first | go_big_quiet_step (fail) | quiet_step (fail))
                (refine wpQuiet_step (fun K hK => ?_); refine quiet_load_at (by kernel_rfl) 26 _ rfl (ad.add (i * 9)) (by first | rfl | (simp [Act.eval, Addr.add_mid])) CN _ AN.out Try.underlying26 rfl (by rw [HCS.out]; kernel_rfl) ?_; refine hK _ ?_; clear hK K; go_frame)
                (first | go_big_quiet_step (fail) | quiet_step (fail))
                (first | go_big_quiet_step (fail) | quiet_step (fail))
                (first | go_big_quiet_step (fail) | quiet_step (fail))
                (first | go_big_quiet_step (fail) | quiet_step (fail))
                (first | go_big_quiet_step (fail) | quiet_step (fail))
                (first | go_big_quiet_step (fail) | quiet_step (fail))
                (first | go_big_quiet_step (fail) | quiet_step (fail))
                (first | go_big_quiet_step (fail) | quiet_step (fail))
                (first | go_big_quiet_step (fail) | quiet_step (fail))
                (first | go_big_quiet_step (fail) | quiet_step (fail))
                (refine wpQuiet_step (fun K hK => ?_); refine quiet_load_at (by kernel_rfl) 28 _ rfl (ad.add (i1 * 9)) (by first | rfl | (simp [Act.eval, Addr.add_mid])) CQ _ KQ.out Try.underlying28 rfl (by rw [HQS.out]; kernel_rfl) ?_; refine hK _ ?_; clear hK K; go_frame)
                (first | go_big_quiet_step (fail) | quiet_step (fail))
                (first | go_big_quiet_step (fail) | quiet_step (fail))
                (first | go_big_quiet_step (fail) | quiet_step (fail))
                (refine wpQuiet_step (fun K hK => ?_); refine quiet_load_at (by kernel_rfl) 28 _ rfl (ad.add (i * 9)) (by first | rfl | (simp [Act.eval, Addr.add_mid])) CR _ KR.out Try.underlying28 rfl (by rw [HRS.out]; kernel_rfl) ?_; refine hK _ ?_; clear hK K; go_frame)
                quiet_step (first | (go_at_call 26; exact Calls.regrown_of (HFI.out _)))
                (first | go_big_quiet_step (fail) | quiet_step (fail))
                (first | go_big_quiet_step (fail) | quiet_step (fail))
                (first | go_big_quiet_step (fail) | quiet_step (fail))
                refine wpQuiet_nil ?_
                intro w9 hw9
                obtain ⟨⟨dq, osq⟩, rfl⟩ := hw9
                have HB9 := Lib.hid ((HBW.out).trans ((below_regrown wr dq osq).mono (HBW.out).size))
                generalize Sort.grow (redrawn wr dq) osq = w9b at *
                go_wp2
                go_ret
                rw [HV.out]
                exact ⟨rfl, HB9.out⟩
              · have HOK2 : Hid (∀ j, j < i + 1 → okI K j = true) := fun j hj => by
                  by_cases hji : j < i
                  · exact HOK.out j hji
                  · obtain rfl : j = i := by omega
                    rw [HPO.out, hf]
                rw [hf] at HFI
                clear hf
                go_upto_region 4 with (fail)
                refine wp_region_quiet_below (by kernel_rfl) (by kernel_rfl) ?_
                (first | go_big_quiet_step (fail) | quiet_step (fail))
                (first | go_big_quiet_step (fail) | quiet_step (fail))
                (first | go_big_quiet_step (fail) | quiet_step (fail))
                (first | go_big_quiet_step (fail) | quiet_step (fail))
                (refine wpQuiet_step (fun K hK => ?_); refine quiet_load_cell (by kernel_rfl) 3 _ rfl ((ad.add (i * 9)).add 4) (by first | rfl | (simp [Act.eval, Addr.add_mid])) (.int .i64 (b : Int)) _ A4.out Try.underlying3 rfl ?_; refine hK _ ?_; clear hK K; go_frame)
                (first | go_big_quiet_step (fail) | quiet_step (fail))
                (first | go_big_quiet_step (fail) | quiet_step (fail))
                (first | go_big_quiet_step (fail) | quiet_step (fail))
                (first | go_big_quiet_step (fail) | quiet_step (fail))
                (first | go_big_quiet_step (fail) | quiet_step (fail))
                (first | go_big_quiet_step (fail) | quiet_step (fail))
                (refine wpQuiet_step (fun K hK => ?_); refine quiet_load_cell (by kernel_rfl) 3 _ rfl ((ad.add (i * 9)).add 4) (by first | rfl | (simp [Act.eval, Addr.add_mid])) (.int .i64 (b : Int)) _ A4.out Try.underlying3 rfl ?_; refine hK _ ?_; clear hK K; go_frame)
                (first | go_big_quiet_step (fail) | quiet_step (fail))
                (first | go_big_quiet_step (fail) | quiet_step (fail))
                (first | go_big_quiet_step (fail) | quiet_step (fail))
                (first | go_big_quiet_step (fail) | quiet_step (fail))
                (first | go_big_quiet_step (fail) | quiet_step (fail))
                (first | go_big_quiet_step (fail) | quiet_step (fail))
                (first | go_big_quiet_step (fail) | quiet_step (fail))
                (refine wpQuiet_step (fun K hK => ?_); refine quiet_load_at (by kernel_rfl) 26 _ rfl (ad.add (i * 9)) (by first | rfl | (simp [Act.eval, Addr.add_mid])) CN _ AN.out Try.underlying26 rfl (by rw [HCS.out]; kernel_rfl) ?_; refine hK _ ?_; clear hK K; go_frame)
                (first | go_big_quiet_step (fail) | quiet_step (fail))
                (first | go_big_quiet_step (fail) | quiet_step (fail))
                (first | go_big_quiet_step (fail) | quiet_step (fail))
                (first | go_big_quiet_step (fail) | quiet_step (fail))
                (refine wpQuiet_step (fun K hK => ?_); refine quiet_load_cell (by kernel_rfl) 3 _ rfl ((ad.add (i * 9)).add 4) (by first | rfl | (simp [Act.eval, Addr.add_mid])) (.int .i64 (b : Int)) _ A4.out Try.underlying3 rfl ?_; refine hK _ ?_; clear hK K; go_frame)
                quiet_step (first | (go_at_call 25; exact Calls.regrown_of (HMK.out _)))
                (first | go_big_quiet_step (fail) | quiet_step (fail))
                (first | go_big_quiet_step (fail) | quiet_step (fail))
                (first | go_big_quiet_step (fail) | quiet_step (fail))
                (first | go_big_quiet_step (fail) | quiet_step (fail))
                (refine wpQuiet_step (fun K hK => ?_); refine quiet_load_at (by kernel_rfl) 26 _ rfl (ad.add (i * 9)) (by first | rfl | (simp [Act.eval, Addr.add_mid])) CN _ AN.out Try.underlying26 rfl (by rw [HCS.out]; kernel_rfl) ?_; refine hK _ ?_; clear hK K; go_frame)
                (first | go_big_quiet_step (fail) | quiet_step (fail))
                (first | go_big_quiet_step (fail) | quiet_step (fail))
                (first | go_big_quiet_step (fail) | quiet_step (fail))
                (first | go_big_quiet_step (fail) | quiet_step (fail))
                (first | go_big_quiet_step (fail) | quiet_step (fail))
                (first | go_big_quiet_step (fail) | quiet_step (fail))
                (first | go_big_quiet_step (fail) | quiet_step (fail))
                (first | go_big_quiet_step (fail) | quiet_step (fail))
                (first | go_big_quiet_step (fail) | quiet_step (fail))
                (first | go_big_quiet_step (fail) | quiet_step (fail))
                (refine wpQuiet_step (fun K hK => ?_); refine quiet_load_at (by kernel_rfl) 28 _ rfl (ad.add (i1 * 9)) (by first | rfl | (simp [Act.eval, Addr.add_mid])) CQ _ KQ.out Try.underlying28 rfl (by rw [HQS.out]; kernel_rfl) ?_; refine hK _ ?_; clear hK K; go_frame)
                (first | go_big_quiet_step (fail) | quiet_step (fail))
                (first | go_big_quiet_step (fail) | quiet_step (fail))
                (first | go_big_quiet_step (fail) | quiet_step (fail))
                (refine wpQuiet_step (fun K hK => ?_); refine quiet_load_at (by kernel_rfl) 28 _ rfl (ad.add (i * 9)) (by first | rfl | (simp [Act.eval, Addr.add_mid])) CR _ KR.out Try.underlying28 rfl (by rw [HRS.out]; kernel_rfl) ?_; refine hK _ ?_; clear hK K; go_frame)
                quiet_step (first | (go_at_call 26; exact Calls.regrown_of (HFI.out _)))
                (first | go_big_quiet_step (fail) | quiet_step (fail))
                (first | go_big_quiet_step (fail) | quiet_step (fail))
                (first | go_big_quiet_step (fail) | quiet_step (fail))
                refine wpQuiet_nil ?_
                intro w9 hw9
                obtain ⟨⟨dq, osq⟩, rfl⟩ := hw9
                have HB9 := Lib.hid ((HBW.out).trans ((below_regrown wr dq osq).mono (HBW.out).size))
                generalize Sort.grow (redrawn wr dq) osq = w9b at *
                go_wp2
                go_roundw
                case rel => exact ⟨i + 1, by omega, by go_num, HOK2, HB9⟩
                case measure => simp [intOf]; omega
          · have heq := HEQ.out
            rw [decide_eq_false hm] at heq
            have HV : Hid (rightX K = false) := right_false HR.out ((okI_at HR.out).trans (okR_bits (.inr (.inr (by rw [HR4.out]; exact hm)))))
            clear HEQ hm HKA
            go_upto_region 4 with (fail)
            refine wp_region_quiet_below (by kernel_rfl) (by kernel_rfl) ?_
            (first | go_big_quiet_step (fail) | quiet_step (fail))
            (first | go_big_quiet_step (fail) | quiet_step (fail))
            (first | go_big_quiet_step (fail) | quiet_step (fail))
            (first | go_big_quiet_step (fail) | quiet_step (fail))
            (refine wpQuiet_step (fun K hK => ?_); refine quiet_load_cell (by kernel_rfl) 3 _ rfl ((ad.add (i * 9)).add 4) (by first | rfl | (simp [Act.eval, Addr.add_mid])) (.int .i64 (b : Int)) _ A4.out Try.underlying3 rfl ?_; refine hK _ ?_; clear hK K; go_frame)
            (first | go_big_quiet_step (fail) | quiet_step (fail))
            (first | go_big_quiet_step (fail) | quiet_step (fail))
            (first | go_big_quiet_step (fail) | quiet_step (fail))
            (first | go_big_quiet_step (fail) | quiet_step (fail))
            (first | go_big_quiet_step (fail) | quiet_step (fail))
            (first | go_big_quiet_step (fail) | quiet_step (fail))
            (refine wpQuiet_step (fun K hK => ?_); refine quiet_load_cell (by kernel_rfl) 3 _ rfl ((ad.add (i * 9)).add 4) (by first | rfl | (simp [Act.eval, Addr.add_mid])) (.int .i64 (b : Int)) _ A4.out Try.underlying3 rfl ?_; refine hK _ ?_; clear hK K; go_frame)
            (first | go_big_quiet_step (fail) | quiet_step (fail))
            (first | go_big_quiet_step (fail) | quiet_step (fail))
            (first | go_big_quiet_step (fail) | quiet_step (fail))
            (first | go_big_quiet_step (fail) | quiet_step (fail))
            (first | go_big_quiet_step (fail) | quiet_step (fail))
            (first | go_big_quiet_step (fail) | quiet_step (fail))
            (first | go_big_quiet_step (fail) | quiet_step (fail))
            (refine wpQuiet_step (fun K hK => ?_); refine quiet_load_at (by kernel_rfl) 26 _ rfl (ad.add (i * 9)) (by first | rfl | (simp [Act.eval, Addr.add_mid])) CN _ AN.out Try.underlying26 rfl (by rw [HCS.out]; kernel_rfl) ?_; refine hK _ ?_; clear hK K; go_frame)
            (first | go_big_quiet_step (fail) | quiet_step (fail))
            (first | go_big_quiet_step (fail) | quiet_step (fail))
            (first | go_big_quiet_step (fail) | quiet_step (fail))
            (first | go_big_quiet_step (fail) | quiet_step (fail))
            (refine wpQuiet_step (fun K hK => ?_); refine quiet_load_cell (by kernel_rfl) 3 _ rfl ((ad.add (i * 9)).add 4) (by first | rfl | (simp [Act.eval, Addr.add_mid])) (.int .i64 (b : Int)) _ A4.out Try.underlying3 rfl ?_; refine hK _ ?_; clear hK K; go_frame)
            quiet_step (first | (go_at_call 25; exact Calls.regrown_of (HMK.out _)))
            (first | go_big_quiet_step (fail) | quiet_step (fail))
            (first | go_big_quiet_step (fail) | quiet_step (fail))
            (first | go_big_quiet_step (fail) | quiet_step (fail))
            (first | go_big_quiet_step (fail) | quiet_step (fail))
            (refine wpQuiet_step (fun K hK => ?_); refine quiet_load_at (by kernel_rfl) 26 _ rfl (ad.add (i * 9)) (by first | rfl | (simp [Act.eval, Addr.add_mid])) CN _ AN.out Try.underlying26 rfl (by rw [HCS.out]; kernel_rfl) ?_; refine hK _ ?_; clear hK K; go_frame)
            (first | go_big_quiet_step (fail) | quiet_step (fail))
            (first | go_big_quiet_step (fail) | quiet_step (fail))
            (first | go_big_quiet_step (fail) | quiet_step (fail))
            (first | go_big_quiet_step (fail) | quiet_step (fail))
            (first | go_big_quiet_step (fail) | quiet_step (fail))
            (first | go_big_quiet_step (fail) | quiet_step (fail))
            (first | go_big_quiet_step (fail) | quiet_step (fail))
            (first | go_big_quiet_step (fail) | quiet_step (fail))
            (first | go_big_quiet_step (fail) | quiet_step (fail))
            (first | go_big_quiet_step (fail) | quiet_step (fail))
            (first | go_big_quiet_step (fail) | quiet_step (fail))
            (first | go_big_quiet_step (fail) | quiet_step (fail))
            (first | go_big_quiet_step (fail) | quiet_step (fail))
            (first | go_big_quiet_step (fail) | quiet_step (fail))
            (first | go_big_quiet_step (fail) | quiet_step (fail))
            (first | go_big_quiet_step (fail) | quiet_step (fail))
            (first | go_big_quiet_step (fail) | quiet_step (fail))
            (first | go_big_quiet_step (fail) | quiet_step (fail))
            (first | go_big_quiet_step (fail) | quiet_step (fail))
            refine wpQuiet_nil ?_
            intro w9 hw9
            obtain ⟨⟨dq, osq⟩, rfl⟩ := hw9
            have HB9 := Lib.hid ((HBW.out).trans ((below_regrown wr dq osq).mono (HBW.out).size))
            generalize Sort.grow (redrawn wr dq) osq = w9b at *
            go_wp2
            go_ret
            rw [HV.out]
            exact ⟨rfl, HB9.out⟩
    · obtain rfl : i = n := by omega
      have HV : Hid (rightX K = decide (i ≤ 8)) := by
        have := right_end (K := K) (fun j hj => HOK.out j (by rw [HN.out] at hj; exact hj))
        rw [HN.out] at this
        exact this
      go_wp2
      go_ret
      rw [HV.out]
      exact ⟨congrArg (fun b => Ending.returned (Value.bool b)) (Bool.eq_iff_iff.2 (by simp <;> omega)), HBW.out⟩
end Go.Proofs.Ytfifigokglmjlaa
