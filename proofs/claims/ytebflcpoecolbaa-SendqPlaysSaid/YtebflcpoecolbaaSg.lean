/-
  The document's Again of layer 18. Every state that may be, every number.
-/
import Derived.Test.YtebflcpoecolbaaSa
import Derived.Test.YtebflcpoecolbaaVar
namespace Go.Proofs.Ytebflcpoecolbaa
open Go.RowKit

def againV (x : Sx) (mss : Int) : Array Value := if againO x mss = true then #[.int .u32 (addS x.first (againF x : Nat)), txtV (againB x mss), .bool (againE x mss), .bool true] else #[.int .u32 0, txtV [], .bool false, .bool false]
theorem ret_tmp4 {P : Program} {fn : Func} {R : Ending → World → Prop} {a : Act} {w : World} {u u1 u2 u3 : Tmp} (h : fn.results = #[.tmp u, .tmp u1, .tmp u2, .tmp u3]) (hdf : a.defers = []) (hR : R (.returned (.tuple #[a.tmps.getD u undef, a.tmps.getD u1 undef, a.tmps.getD u2 undef, a.tmps.getD u3 undef])) w) : bodyPost P fn R .ret a w := by
  refine bodyPost_ret (v := .tuple #[a.tmps.getD u undef, a.tmps.getD u1 undef, a.tmps.getD u2 undef, a.tmps.getD u3 undef]) ?_ hdf hR
  simp [results, h]
theorem againT_le {x : Sx} (_h : OkS x) (mss : Int) : againF x ≤ againT x mss ∧ againT x mss ≤ x.sent := by
  have : againF x ≤ x.sent := Nat.min_le_right ..
  unfold againT
  omega
set_option maxRecDepth 100000 in
set_option maxHeartbeats 8000000 in
theorem refagain_any (x : Sx) (mss : Int) (w : World) (hx : OkS x) (hl : x.all.length ≤ 1000000) (hms : I64 mss) : Calls Try.prog 27 #[.agg (sxC x), .int .i64 mss] w fun e w' => e = .returned (.tuple (againV x mss)) ∧ Below w.heap.size w w' := by
  have hak : x.acked ≤ 1000001 := by have h1 := hx.acked; have h2 := hx.sent; split at h1 <;> omega
  have hsl := hx.sent
  obtain ⟨ht1, ht2⟩ := againT_le hx mss
  obtain ⟨w1, hw1⟩ : ∃ w1, w.alloc (.cells (sxC x) 31) = w1 := ⟨_, rfl⟩
  have HB1 : Hid (Below w.heap.size w w1) := by rw [← hw1]; exact (Below.refl _ _).alloc (Nat.le_refl _) _
  have HX0 : Hid (w1.heap[w.heap.size]? = some (.cells (sxC x) 31 (0, 0))) := by rw [← hw1]; exact heap_alloc_new w _
  have HW := Lib.hid hw1
  clear hw1
  have HF3 := Lib.hid hx.first
  have HA1 : Hid (againO x mss = true → againV x mss = #[.int .u32 (addS x.first (againF x : Nat)), txtV (againB x mss), .bool (againE x mss), .bool true]) := Lib.hid (fun h => if_pos h)
  have HA2 : Hid (againO x mss = false → againV x mss = #[.int .u32 0, txtV [], .bool false, .bool false]) := Lib.hid (fun h => if_neg (by rw [h]; decide))
  have HOO : Hid (againO x mss = (decide (againF x ≠ againT x mss) || againE x mss)) := rfl
  have HBB : Hid (againB x mss = (x.all.drop (againF x)).take (againT x mss - againF x)) := rfl
  have HEE : Hid (againE x mss = (x.fsent && decide (x.acked ≤ x.all.length) && decide (againT x mss = x.all.length))) := rfl
  have HTT : Hid (againT x mss = againF x + (max 0 (min ((x.sent - againF x : Nat) : Int) mss)).toNat) := rfl
  have HFF : Hid (againF x = min x.acked x.sent) := rfl
  obtain ⟨fr, hfr⟩ : ∃ fr, againF x = fr := ⟨_, rfl⟩
  obtain ⟨tq, hto⟩ : ∃ tq, againT x mss = tq := ⟨_, rfl⟩
  obtain ⟨EB, hEB⟩ : ∃ EB, againE x mss = EB := ⟨_, rfl⟩
  obtain ⟨AO, hAO⟩ : ∃ AO, againO x mss = AO := ⟨_, rfl⟩
  obtain ⟨AB, hAB⟩ : ∃ AB, againB x mss = AB := ⟨_, rfl⟩
  rw [hfr, hto] at ht1
  rw [hto] at ht2
  rw [hAO, hfr, hAB, hEB] at HA1
  rw [hAO] at HA2
  rw [hAO, hfr, hto, hEB] at HOO
  rw [hAB, hfr, hto] at HBB
  rw [hEB, hto] at HEE
  rw [hto, hfr] at HTT
  rw [hfr] at HFF
  obtain ⟨V, hV⟩ : ∃ V, againV x mss = V := ⟨_, rfl⟩
  rw [hV] at HA1 HA2 ⊢
  clear hfr hto hEB hAO hAB hV hx
  obtain ⟨m, hm⟩ : ∃ m, x.all.length = m := ⟨_, rfl⟩
  have hts : (⟨x.all.toArray⟩ : ByteArray).size = m := (txt_size _).trans hm
  have HML := Lib.hid hm
  rw [hm] at HEE hl hsl
  obtain ⟨a, ha⟩ : ∃ a, x.acked = a := ⟨_, rfl⟩
  obtain ⟨sn, hsn⟩ : ∃ sn, x.sent = sn := ⟨_, rfl⟩
  obtain ⟨fs, hfs⟩ : ∃ fs, x.fsent = fs := ⟨_, rfl⟩
  rw [ha] at HFF HEE hak
  rw [hsn] at HFF HTT ht2 hsl
  rw [hfs] at HEE
  go_enter Try.func27, Try.ntmps27
  go_upto_region 1 with (fail)
  change Code.wp _ _ _ _ (w.alloc (.cells (sxC x) 31))
  rw [HW.out]
  clear HW
  obtain ⟨c0, c1, c2, c3, c4, c5⟩ := sx_cells HX0.out
  rw [ha] at c2
  rw [hsn] at c3
  rw [hfs] at c5
  clear ha hsn hfs hm
  go_cut [8] (fun t8 wx => Hid (t8 = .int .i64 (fr : Int)) ∧ Hid (w1 = wx))
  case first =>
    rcases Nat.lt_trichotomy a sn with h | h | h
    · have hb : (a : Int) < (sn : Int) := by omega
      have he : Hid (fr = a) := by have := HFF.out; show _ = _; omega
      go_wp2
      go_meet
      case rel => exact ⟨Lib.hid (by rw [he.out]), Lib.hid rfl⟩
    · subst h
      have he : Hid (fr = a) := by have := HFF.out; show _ = _; omega
      go_wp2
      go_meet
      case rel => exact ⟨Lib.hid (by rw [he.out]), Lib.hid rfl⟩
    · have hb : (sn : Int) < (a : Int) := by omega
      have he : Hid (fr = sn) := by have := HFF.out; show _ = _; omega
      go_wp2
      go_meet
      case rel => exact ⟨Lib.hid (by rw [he.out]), Lib.hid rfl⟩
  case rest =>
    obtain ⟨h8, hx⟩ := hcut
    obtain rfl := h8.out
    obtain rfl := hx.out
    clear h8 hx
    have hfrs : fr ≤ sn := by have := HFF.out; omega
    obtain ⟨r, hr⟩ : ∃ r, sn - fr = r := ⟨_, rfl⟩
    have hrI : (sn : Int) - (fr : Int) = (r : Int) := by omega
    rw [hr] at HTT
    clear hr
    go_upto_region 2 with (fail)
    go_cut [9] (fun t9 wx => Hid (t9 = .int .i64 (tq : Int)) ∧ Hid (w1 = wx))
    case first =>
      rcases Int.lt_trichotomy mss (r : Int) with h | h | h
      · rcases Int.lt_trichotomy 0 mss with h2 | h2 | h2
        · have he : Hid ((tq : Int) = (fr : Int) + mss) := by have := HTT.out; show _ = _; omega
          go_wp2
          go_meet
          case rel => exact ⟨Lib.hid (by rw [he.out]), Lib.hid rfl⟩
        · subst h2
          have he : Hid ((tq : Int) = (fr : Int)) := by have := HTT.out; show _ = _; omega
          go_wp2
          go_meet
          case rel => exact ⟨Lib.hid (by rw [he.out]), Lib.hid rfl⟩
        · have he : Hid ((tq : Int) = (fr : Int)) := by have := HTT.out; show _ = _; omega
          go_wp2
          go_meet
          case rel => exact ⟨Lib.hid (by rw [he.out]), Lib.hid rfl⟩
      · subst h
        rcases Nat.eq_zero_or_pos r with h2 | h2
        · subst h2
          have he : Hid ((tq : Int) = (fr : Int)) := by have := HTT.out; show _ = _; omega
          go_wp2
          go_meet
          case rel => exact ⟨Lib.hid (by rw [he.out]), Lib.hid rfl⟩
        · have h3 : (0 : Int) < (r : Int) := by omega
          have he : Hid ((tq : Int) = (fr : Int) + (r : Int)) := by have := HTT.out; show _ = _; omega
          go_wp2
          go_meet
          case rel => exact ⟨Lib.hid (by rw [he.out]), Lib.hid rfl⟩
      · rcases Nat.eq_zero_or_pos r with h2 | h2
        · subst h2
          have he : Hid ((tq : Int) = (fr : Int)) := by have := HTT.out; show _ = _; omega
          go_wp2
          go_meet
          case rel => exact ⟨Lib.hid (by rw [he.out]), Lib.hid rfl⟩
        · have h3 : (0 : Int) < (r : Int) := by omega
          have he : Hid ((tq : Int) = (fr : Int) + (r : Int)) := by have := HTT.out; show _ = _; omega
          go_wp2
          go_meet
          case rel => exact ⟨Lib.hid (by rw [he.out]), Lib.hid rfl⟩
    case rest =>
      obtain ⟨h9, hx⟩ := hcut
      obtain rfl := h9.out
      obtain rfl := hx.out
      clear h9 hx hrI HTT
      go_upto_region 3 with (fail)
      go_cut [10] (fun t10 wx => Hid (t10 = .bool EB) ∧ Hid (w1 = wx))
      case first =>
        cases fs
        · have he : Hid (EB = false) := by have h9 := HEE.out; simp [*] at h9; exact h9
          go_wp2
          go_meet
          case rel => exact ⟨Lib.hid (by rw [he.out]), Lib.hid rfl⟩
        · by_cases hA : a ≤ m
          · have hAI : (a : Int) ≤ (m : Int) := by omega
            by_cases hTo : tq = m
            · subst hTo
              have he : Hid (EB = true) := by have h9 := HEE.out; simp [*] at h9; exact h9
              go_wp2
              go_meet
              case rel => exact ⟨Lib.hid (by rw [he.out]), Lib.hid rfl⟩
            · have hToI : ¬ (tq : Int) = (m : Int) := by omega
              have hToI2 : ((tq : Int) == (m : Int)) = false := beq_eq_false_iff_ne.2 hToI
              have he : Hid (EB = false) := by have h9 := HEE.out; simp [*] at h9; exact h9
              go_wp2
              go_meet
              case rel => exact ⟨Lib.hid (by rw [he.out]), Lib.hid rfl⟩
          · have hAI : ¬ (a : Int) ≤ (m : Int) := by omega
            have he : Hid (EB = false) := by have h9 := HEE.out; simp [*] at h9; exact h9
            go_wp2
            go_meet
            case rel => exact ⟨Lib.hid (by rw [he.out]), Lib.hid rfl⟩
      case rest =>
        obtain ⟨h10, hx⟩ := hcut
        obtain rfl := h10.out
        obtain rfl := hx.out
        clear h10 hx HEE
        go_upto_region 4 with (fail)
        by_cases hft : fr = tq
        · cases EB
          · have HAO : Hid (AO = false) := by have h9 := HOO.out; show _ = _; rw [h9, decide_eq_false (by omega)]; rfl
            subst hft
            go_wp2
            refine ret_tmp4 rfl rfl ?_
            exact ⟨by rw [HA2.out HAO.out]; rfl, HB1.out⟩
          · subst hft
            have hABn : AB = [] := by rw [HBB.out, Nat.sub_self, List.take_zero]
            have HABN := Lib.hid hABn
            clear hABn
            have HAO : Hid (AO = true) := by have h9 := HOO.out; show _ = _; rw [h9, Bool.or_true]
            have HEX : Hid ((⟨x.all.toArray⟩ : ByteArray).extract fr fr = ⟨AB.toArray⟩) := by
              show _ = _
              rw [HBB.out]
              apply ByteArray.ext
              first | (simp; done) | (simp [List.extract_eq_take_drop]; done) | (simp [List.extract_eq_drop_take]; done) | (simp [List.extract]; done)
            have hex := HEX.out
            have hft2 : (fr : Int) ≤ (fr : Int) := by omega
            have htm : (fr : Int) ≤ (m : Int) := by omega
            have HADD : Hid (∀ w', Calls Try.prog 29 #[.int .u32 x.first, .int .i64 (fr : Int)] w' fun e w'' => e = .returned (.int .u32 (addS x.first (fr : Int))) ∧ Below w'.heap.size w' w'') := fun w' => (sqrefadd_any x.first (fr : Int) w' HF3.out.1 HF3.out.2 (by omega) (by omega)).mono (by rintro e w9 ⟨rfl, rfl⟩; exact ⟨rfl, Below.refl _ _⟩)
            have HAV := HA1.out HAO.out
            clear HA1 HA2 HAO HOO HBB HEX HFF
            go_upto_region 6 with (fail)
            refine wp_region_quiet_below (by kernel_rfl) (by kernel_rfl) ?_
            (first | go_big_quiet_step (fail) | quiet_step (fail))
            (refine wpQuiet_step (fun K hK => ?_); refine quiet_load_cell (by kernel_rfl) 22 _ rfl ((⟨w.heap.size, 0, none⟩ : Addr).add 0) (by first | rfl | (simp [Act.eval, Addr.add_mid])) (.int .u32 x.first) _ (var_cell HX0.out 0 rfl) Try.underlying22 rfl ?_; refine hK _ ?_; clear hK K; go_frame)
            (first | go_big_quiet_step (fail) | quiet_step (fail))
            quiet_step (first | (go_at_call 29; exact Calls.regrown_of (HADD.out _)))
            (first | go_big_quiet_step (fail) | quiet_step (fail))
            (refine wpQuiet_step (fun K hK => ?_); refine quiet_load_cell (by kernel_rfl) 9 _ rfl ((⟨w.heap.size, 0, none⟩ : Addr).add 1) (by first | rfl | (simp [Act.eval, Addr.add_mid])) (.string ⟨x.all.toArray⟩) _ (var_cell HX0.out 1 rfl) Try.underlying9 rfl ?_; refine hK _ ?_; clear hK K; go_frame)
            (first | go_big_quiet_step (fail) | quiet_step (fail))
            (first | go_big_quiet_step (fail) | quiet_step (fail))
            (first | go_big_quiet_step (fail) | quiet_step (fail))
            (first | go_big_quiet_step (fail) | quiet_step (fail))
            (first | go_big_quiet_step (fail) | quiet_step (fail))
            (first | go_big_quiet_step (fail) | quiet_step (fail))
            (first | go_big_quiet_step (fail) | quiet_step (fail))
            (first | go_big_quiet_step (fail) | quiet_step (fail))
            refine wpQuiet_nil ?_
            intro w9 hw9
            obtain ⟨⟨dq, osq⟩, rfl⟩ := hw9
            have HB9 := Lib.hid ((HB1.out).trans ((below_regrown w1 dq osq).mono (HB1.out).size))
            generalize Sort.grow (redrawn w1 dq) osq = w9z at *
            go_wp2
            refine ret_tmp4 rfl rfl ?_
            exact ⟨by rw [HAV, HABN.out]; rfl, HB9.out⟩
        · have hftI : ¬ (fr : Int) = (tq : Int) := by omega
          have hftI2 : ((fr : Int) == (tq : Int)) = false := beq_eq_false_iff_ne.2 hftI
          have HAO : Hid (AO = true) := by have h9 := HOO.out; show _ = _; rw [h9, decide_eq_true hft, Bool.true_or]
          have HEX : Hid ((⟨x.all.toArray⟩ : ByteArray).extract fr tq = ⟨AB.toArray⟩) := by
            show _ = _
            rw [HBB.out]
            apply ByteArray.ext
            first | (simp; done) | (simp [List.extract_eq_take_drop]; done) | (simp [List.extract_eq_drop_take]; done) | (simp [List.extract]; done)
          have hex := HEX.out
          have hft2 : (fr : Int) ≤ (tq : Int) := by omega
          have htm : (tq : Int) ≤ (m : Int) := by omega
          have HADD : Hid (∀ w', Calls Try.prog 29 #[.int .u32 x.first, .int .i64 (fr : Int)] w' fun e w'' => e = .returned (.int .u32 (addS x.first (fr : Int))) ∧ Below w'.heap.size w' w'') := fun w' => (sqrefadd_any x.first (fr : Int) w' HF3.out.1 HF3.out.2 (by omega) (by omega)).mono (by rintro e w9 ⟨rfl, rfl⟩; exact ⟨rfl, Below.refl _ _⟩)
          have HAV := HA1.out HAO.out
          clear HA1 HA2 HAO HOO HBB HEX HFF
          go_upto_region 6 with (fail)
          refine wp_region_quiet_below (by kernel_rfl) (by kernel_rfl) ?_
          (first | go_big_quiet_step (fail) | quiet_step (fail))
          (refine wpQuiet_step (fun K hK => ?_); refine quiet_load_cell (by kernel_rfl) 22 _ rfl ((⟨w.heap.size, 0, none⟩ : Addr).add 0) (by first | rfl | (simp [Act.eval, Addr.add_mid])) (.int .u32 x.first) _ (var_cell HX0.out 0 rfl) Try.underlying22 rfl ?_; refine hK _ ?_; clear hK K; go_frame)
          (first | go_big_quiet_step (fail) | quiet_step (fail))
          quiet_step (first | (go_at_call 29; exact Calls.regrown_of (HADD.out _)))
          (first | go_big_quiet_step (fail) | quiet_step (fail))
          (refine wpQuiet_step (fun K hK => ?_); refine quiet_load_cell (by kernel_rfl) 9 _ rfl ((⟨w.heap.size, 0, none⟩ : Addr).add 1) (by first | rfl | (simp [Act.eval, Addr.add_mid])) (.string ⟨x.all.toArray⟩) _ (var_cell HX0.out 1 rfl) Try.underlying9 rfl ?_; refine hK _ ?_; clear hK K; go_frame)
          (first | go_big_quiet_step (fail) | quiet_step (fail))
          (first | go_big_quiet_step (fail) | quiet_step (fail))
          (first | go_big_quiet_step (fail) | quiet_step (fail))
          (first | go_big_quiet_step (fail) | quiet_step (fail))
          (first | go_big_quiet_step (fail) | quiet_step (fail))
          (first | go_big_quiet_step (fail) | quiet_step (fail))
          (first | go_big_quiet_step (fail) | quiet_step (fail))
          (first | go_big_quiet_step (fail) | quiet_step (fail))
          refine wpQuiet_nil ?_
          intro w9 hw9
          obtain ⟨⟨dq, osq⟩, rfl⟩ := hw9
          have HB9 := Lib.hid ((HB1.out).trans ((below_regrown w1 dq osq).mono (HB1.out).size))
          generalize Sort.grow (redrawn w1 dq) osq = w9z at *
          go_wp2
          refine ret_tmp4 rfl rfl ?_
          exact ⟨by rw [HAV]; rfl, HB9.out⟩
end Go.Proofs.Ytebflcpoecolbaa
