/-
  The document's Next of layer 18. Every state that may be, every two numbers.
-/
import Derived.Test.YtebflcpoecolbaaSa
import Derived.Lib.MinMax
namespace Go.Proofs.Ytebflcpoecolbaa
open Go.RowKit

theorem ret_five {P : Program} {fn : Func} {R : Ending → World → Prop} {a : Act} {w : World} {p u u1 u2 u3 : Tmp} {ty : TypeId} {g : Nat} {cs : Array Value} {t : TypeId} {fr : Nat × Nat} {d : TypeDesc} (h : fn.results = #[.cell p ty, .tmp u, .tmp u1, .tmp u2, .tmp u3]) (hp : a.tmps.getD p undef = .pointer (some ⟨g, 0, none⟩))
    (hg : w.heap[g]? = some (.cells cs t fr)) (hu : P.underlying ty = some d) (hd : d.isRow = true) (hi : (P.info? ty).map (·.size) = some cs.size) (hdf : a.defers = []) (hR : R (.returned (.tuple #[.agg cs, a.tmps.getD u undef, a.tmps.getD u1 undef, a.tmps.getD u2 undef, a.tmps.getD u3 undef])) w) : bodyPost P fn R .ret a w := by
  refine bodyPost_ret (v := .tuple #[.agg cs, a.tmps.getD u undef, a.tmps.getD u1 undef, a.tmps.getD u2 undef, a.tmps.getD u3 undef]) ?_ hdf hR
  have hp' : a.tmps[p]?.getD undef = .pointer (some ⟨g, 0, none⟩) := by simpa using hp
  simp [results, h, hp', asAddr, run_loadVar_row w g t ty cs fr d hg hu (by cases d <;> first | rfl | cases hd) hi]
def nextV (x : Sx) (window mss : Int) : Array Value := #[.agg (sxC (nextS x window mss))] ++ (if nextO x window mss = true then #[.int .u32 (addS x.first (x.sent : Nat)), txtV (nextB x window mss), .bool (nextE x window mss), .bool true] else #[.int .u32 0, txtV [], .bool false, .bool false])
theorem next_none {x : Sx} {window mss : Int} (h : nextO x window mss = false) : nextS x window mss = x := by
  unfold nextO at h
  rw [Bool.or_eq_false_iff] at h
  have h1 : nextN x window mss = 0 := Decidable.not_not.1 (of_decide_eq_false h.1)
  unfold nextS
  rw [h1, h.2, Bool.or_false]
  rfl
theorem put3S {w : World} {g : Nat} {t : TypeId} {u0 u1 u2 u3 u4 u5 : Value} (h : w.heap[g]? = some (.cells #[u0, u1, u2, u3, u4, u5] t (0, 0))) (v : Value) : w.setCell ⟨g, 3, none⟩ v = w.setRow g #[u0, u1, u2, v, u4, u5] := by
  rw [setCell_eq_setRow w g 3 _ t (0, 0) v h]
  rfl
theorem put5S {w : World} {g : Nat} {t : TypeId} {u0 u1 u2 u3 u4 u5 : Value} (h : w.heap[g]? = some (.cells #[u0, u1, u2, u3, u4, u5] t (0, 0))) (v : Value) : w.setCell ⟨g, 5, none⟩ v = w.setRow g #[u0, u1, u2, u3, u4, v] := by
  rw [setCell_eq_setRow w g 5 _ t (0, 0) v h]
  rfl
set_option maxRecDepth 100000 in
set_option maxHeartbeats 4000000 in
theorem refnext_any (x : Sx) (window mss : Int) (w : World) (hx : OkS x) (hl : x.all.length ≤ 1000000) (hwi : I64 window) (hms : I64 mss) : Calls Try.prog 26 #[.agg (sxC x), .int .i64 window, .int .i64 mss] w fun e w' => e = .returned (.tuple (nextV x window mss)) ∧ Below w.heap.size w w' := by
  have hak : x.acked ≤ 1000001 := by have h1 := hx.acked; have h2 := hx.sent; split at h1 <;> omega
  have hsl := hx.sent
  obtain ⟨w1, hw1⟩ : ∃ w1, (w.alloc (.cells (sxC x) 31)).alloc (.cells Zsx 31) = w1 := ⟨_, rfl⟩
  have HB1 : Hid (Below w.heap.size w w1) := by rw [← hw1]; exact ((Below.refl _ _).alloc (Nat.le_refl _) _).alloc (by simp) _
  have HX0 : Hid (w1.heap[w.heap.size]? = some (.cells (sxC x) 31 (0, 0))) := by rw [← hw1]; exact old_alloc (heap_alloc_new w _) _
  have HX1 : Hid (w1.heap[w.heap.size + 1]? = some (.cells Zsx 31 (0, 0))) := by rw [← hw1]; exact new_at1 w _ _
  have HW := Lib.hid hw1
  clear hw1
  obtain ⟨g, hg⟩ : ∃ g, w.heap.size + 1 = g := ⟨_, rfl⟩
  rw [hg] at HX1
  have HG := Lib.hid hg
  clear hg
  have HF3 := Lib.hid hx.first
  obtain ⟨wi1, wi2⟩ := hwi
  obtain ⟨ms1, ms2⟩ := hms
  obtain ⟨MO, hMO⟩ : ∃ MO, min mss (max window 0 - ((x.sent : Int) - min (x.acked : Int) (x.sent : Int))) = MO := ⟨_, rfl⟩
  have HNN : Hid (nextN x window mss = min (x.all.length - x.sent) (max 0 MO).toNat) := by
    show _ = _
    rw [← hMO]
    unfold nextN
    rw [show ((x.sent - min x.acked x.sent : Nat) : Int) = (x.sent : Int) - min (x.acked : Int) (x.sent : Int) from by omega]
  have hmo1 : MO ≤ mss := by omega
  have hmo2 : -9223372036854775808 ≤ MO := by omega
  obtain ⟨NV, hNV⟩ : ∃ NV, nextV x window mss = NV := ⟨_, rfl⟩
  obtain ⟨Y, hY⟩ : ∃ Y, nextS x window mss = Y := ⟨_, rfl⟩
  obtain ⟨OO, hOO⟩ : ∃ OO, nextO x window mss = OO := ⟨_, rfl⟩
  obtain ⟨EB, hEB⟩ : ∃ EB, nextE x window mss = EB := ⟨_, rfl⟩
  obtain ⟨AB, hAB⟩ : ∃ AB, nextB x window mss = AB := ⟨_, rfl⟩
  obtain ⟨nn, hnn⟩ : ∃ nn, nextN x window mss = nn := ⟨_, rfl⟩
  have HV1 : Hid (OO = true → NV = #[.agg (sxC Y), .int .u32 (addS x.first (x.sent : Nat)), txtV AB, .bool EB, .bool true]) := Lib.hid (fun h => by rw [← hNV]; unfold nextV; rw [hY, hOO, if_pos h, hAB, hEB]; rfl)
  have HV2 : Hid (OO = false → NV = #[.agg (sxC x), .int .u32 0, txtV [], .bool false, .bool false]) := Lib.hid (fun h => by rw [← hNV]; unfold nextV; rw [hOO, if_neg (by rw [h]; decide), next_none (hOO.trans h)]; rfl)
  have HO : Hid (OO = (decide (nn ≠ 0) || EB)) := by show _ = _; rw [← hOO, ← hEB, ← hnn]; rfl
  have HE : Hid (EB = (x.fin && !x.fsent && decide (x.sent + nn = x.all.length))) := by show _ = _; rw [← hEB, ← hnn]; rfl
  have HAB : Hid (AB = (x.all.drop x.sent).take nn) := by show _ = _; rw [← hAB, ← hnn]; rfl
  have HYC : Hid (sxC Y = #[.int .u32 x.first, .string ⟨x.all.toArray⟩, .int .i64 (x.acked : Int), .int .i64 ((x.sent : Int) + (nn : Int)), .bool x.fin, .bool (x.fsent || EB)]) := by
    show _ = _
    rw [← hY, ← hEB, ← hnn]
    unfold sxC nextS txtV
    simp only
    rw [Int.natCast_add]
  rw [hNV]
  rw [hnn] at HNN
  clear hNV hY hOO hEB hAB hnn
  go_enter Try.func26, Try.ntmps26
  go_upto_region 1 with (fail)
  change Code.wp _ _ _ _ ((w.alloc (.cells (sxC x) 31)).alloc (.cells Zsx 31))
  rw [HW.out, HG.out]
  clear HW
  obtain ⟨c0, c1, c2, c3, c4, c5⟩ := sx_cells HX0.out
  go_cut [11] (fun t11 wx => Hid (t11 = .int .i64 MO) ∧ Hid (w1 = wx))
  case first =>
    have HMO := Lib.hid hMO
    clear hMO
    go_wp2
    go_meet
    case rel => exact ⟨Lib.hid (by rw [HMO.out]), Lib.hid rfl⟩
  case rest =>
    obtain ⟨h11, hxx⟩ := hcut
    obtain rfl := h11.out
    obtain rfl := hxx.out
    clear h11 hxx hMO
    obtain ⟨m, hm⟩ : ∃ m, x.all.length = m := ⟨_, rfl⟩
    have hts : (⟨x.all.toArray⟩ : ByteArray).size = m := (txt_size _).trans hm
    obtain ⟨rs, hrs⟩ : ∃ rs, m - x.sent = rs := ⟨_, rfl⟩
    have HDL : Hid ((x.all.drop x.sent).length = rs) := by show _ = _; rw [List.length_drop, hm, hrs]
    have HABL : Hid (AB.length = nn) := by show _ = _; rw [HAB.out, List.length_take, HDL.out]; have := HNN.out; rw [hm, hrs] at this; omega
    have HEX : Hid ((⟨x.all.toArray⟩ : ByteArray).extract x.sent m = ⟨(x.all.drop x.sent).toArray⟩) := by
      apply ByteArray.ext
      simp [← hm]
      exact List.take_of_length_le (by simp)
    rw [hm] at HNN HE hsl hl
    rw [hrs] at HNN
    have hrsI : (m : Int) - (x.sent : Int) = (rs : Int) := by omega
    obtain ⟨sn, hsn⟩ : ∃ sn, x.sent = sn := ⟨_, rfl⟩
    rw [hsn] at HE hsl hrs hrsI c3 HYC HEX HDL HAB HV1
    obtain ⟨DR, hDR⟩ : ∃ DR, x.all.drop sn = DR := ⟨_, rfl⟩
    rw [hDR] at HEX HDL HAB
    have HX0b := HX0
    rw [show sxC x = #[.int .u32 x.first, .string ⟨x.all.toArray⟩, .int .i64 (x.acked : Int), .int .i64 (sn : Int), .bool x.fin, .bool x.fsent] from by rw [← hsn]; rfl] at HX0b
    obtain ⟨fe, hfe⟩ : ∃ fe, x.fin = fe := ⟨_, rfl⟩
    obtain ⟨fs, hfs⟩ : ∃ fs, x.fsent = fs := ⟨_, rfl⟩
    rw [hfe] at HE c4 HYC HX0b
    rw [hfs] at HE c5 HYC HX0b
    clear hm hsn hDR hfe hfs hx hrs
    have hex := HEX.out
    have hdl : (⟨DR.toArray⟩ : ByteArray).size = rs := (txt_size _).trans HDL.out
    have hsm : (sn : Int) ≤ (m : Int) := by omega
    go_upto_region 3 with (fail)
    go_upto_if 36 with (fail)
    go_cut [12] (fun t12 wx => Hid (t12 = .string ⟨AB.toArray⟩) ∧ Hid (w1 = wx))
    case first =>
      by_cases hmr : MO < (rs : Int)
      · have hn9 : (nn : Int) = max MO 0 := by have := HNN.out; omega
        have hn8 : max MO 0 = (nn : Int) := hn9.symm
        have hnr : (nn : Int) ≤ (rs : Int) := by have := HNN.out; omega
        have hex2 : (⟨DR.toArray⟩ : ByteArray).extract 0 nn = ⟨AB.toArray⟩ := by
          rw [HAB.out]
          apply ByteArray.ext
          simp
        clear hn9
        go_wp2
        go_meet
        case rel => exact ⟨Lib.hid rfl, Lib.hid rfl⟩
      · have hAD : Hid (AB = DR) := by show _ = _; rw [HAB.out]; exact List.take_of_length_le (by rw [HDL.out]; have := HNN.out; omega)
        go_wp2
        go_meet
        case rel => exact ⟨Lib.hid (by rw [hAD.out]), Lib.hid rfl⟩
    case rest =>
      obtain ⟨h12, hxx⟩ := hcut
      obtain rfl := h12.out
      obtain rfl := hxx.out
      clear h12 hxx hex hdl
      have hab : (⟨AB.toArray⟩ : ByteArray).size = nn := (txt_size _).trans HABL.out
      have hnnm : nn ≤ rs := by have := HNN.out; omega
      go_upto_region 5 with (fail)
      go_cut [13] (fun t13 wx => Hid (t13 = .bool EB) ∧ Hid (w1 = wx))
      case first =>
        cases fe
        · have he : Hid (EB = false) := by have h9 := HE.out; simp [*] at h9; exact h9
          go_wp2
          go_meet
          case rel => exact ⟨Lib.hid (by rw [he.out]), Lib.hid rfl⟩
        · cases fs
          · by_cases hsm2 : sn + nn = m
            · have hsmI : (sn : Int) + (nn : Int) = (m : Int) := by omega
              have he : Hid (EB = true) := by have h9 := HE.out; simp [*] at h9; exact h9
              go_wp2
              go_meet
              case rel => exact ⟨Lib.hid (by rw [he.out]), Lib.hid rfl⟩
            · have hsmI : ¬ (sn : Int) + (nn : Int) = (m : Int) := by omega
              have hsmI2 : ((sn : Int) + (nn : Int) == (m : Int)) = false := beq_eq_false_iff_ne.2 hsmI
              have he : Hid (EB = false) := by have h9 := HE.out; simp [*] at h9; exact h9
              go_wp2
              go_meet
              case rel => exact ⟨Lib.hid (by rw [he.out]), Lib.hid rfl⟩
          · have he : Hid (EB = false) := by have h9 := HE.out; simp [*] at h9; exact h9
            go_wp2
            go_meet
            case rel => exact ⟨Lib.hid (by rw [he.out]), Lib.hid rfl⟩
      case rest =>
        obtain ⟨h13, hxx⟩ := hcut
        obtain rfl := h13.out
        obtain rfl := hxx.out
        clear h13 hxx HE
        rcases AB with _ | ⟨b0, AB⟩
        · obtain rfl : nn = 0 := HABL.out.symm
          rw [show (sn : Int) + ((0 : Nat) : Int) = (sn : Int) from by omega] at HYC
          cases EB
          · have HOT : Hid (OO = false) := by have h9 := HO.out; show _ = _; rw [h9]; rfl
            go_wp2_with (first | (refine wpList_load_row rfl 31 _ rfl w.heap.size rfl 31 (sxC x) (0, 0) _ HX0.out Try.underlying31 rfl (by kernel_rfl) ?_) | (refine wpList_store_row rfl 31 _ _ rfl g (sxC x) rfl rfl 31 Zsx HX1.out (by kernel_rfl) rfl (sx_ones _) ?_))
            refine ret_five (g := g) rfl rfl (setRow_heap _ _ _ _ _ _ HX1.out) Try.underlying31 rfl (by kernel_rfl) rfl ?_
            exact ⟨by rw [HV2.out HOT.out]; rfl, below_setRow HB1.out (by have := HG.out; omega) _⟩
          · have HOT : Hid (OO = true) := by have h9 := HO.out; show _ = _; rw [h9, Bool.or_true]
            go_wp2_with fail
            refine (sqrefadd_any x.first (sn : Int) _ HF3.out.1 HF3.out.2 (by omega) (by omega)).mono ?_
            rintro e w2 ⟨rfl, rfl⟩
            cases fs
            · have hfz3 := frozen_of_row w1 w.heap.size 3 _ _ HX0b.out
              rw [show (false || true) = true from by first | rfl | simp] at HYC
              go_upto_region 10 with (fail)
              rw [put3S HX0b.out]
              have HZ0 := Lib.hid (setRow_heap _ _ _ #[.int .u32 x.first, .string ⟨x.all.toArray⟩, .int .i64 (x.acked : Int), .int .i64 (sn : Int), .bool fe, .bool false] _ _ HX0b.out)
              have HZ1 := Lib.hid ((setRow_other w1 w.heap.size g #[.int .u32 x.first, .string ⟨x.all.toArray⟩, .int .i64 (x.acked : Int), .int .i64 (sn : Int), .bool fe, .bool false] (show g ≠ w.heap.size by have := HG.out; omega)).trans HX1.out)
              have HZB := Lib.hid (below_setRow HB1.out (Nat.le_refl _) #[.int .u32 x.first, .string ⟨x.all.toArray⟩, .int .i64 (x.acked : Int), .int .i64 (sn : Int), .bool fe, .bool false])
              generalize w1.setRow w.heap.size #[.int .u32 x.first, .string ⟨x.all.toArray⟩, .int .i64 (x.acked : Int), .int .i64 (sn : Int), .bool fe, .bool false] = w3 at HZ0 HZ1 HZB ⊢
              clear c0 c1 c2 c3 c4 c5 hfz3 HX0 HX0b HX1 HB1
              have d5 : w3.cell? ⟨w.heap.size, 5, none⟩ = some (.bool false) := by rw [cell_of_row _ _ _ _ _ _ HZ0.out]; rfl
              have hfz5 := frozen_of_row w3 w.heap.size 5 _ _ HZ0.out
              go_upto_region 11 with (fail)
              rw [put5S HZ0.out]
              have HY0 := Lib.hid (setRow_heap _ _ _ (sxC Y) _ _ HZ0.out)
              have HY1 := Lib.hid ((setRow_other w3 w.heap.size g (sxC Y) (show g ≠ w.heap.size by have := HG.out; omega)).trans HZ1.out)
              have HYB := Lib.hid (below_setRow HZB.out (Nat.le_refl _) (sxC Y))
              rw [← HYC.out]
              generalize w3.setRow w.heap.size (sxC Y) = w4 at HY0 HY1 HYB ⊢
              clear d5 hfz5 HZ0 HZ1 HZB HYC
              go_wp2_with (first | (refine wpList_load_row rfl 31 _ rfl w.heap.size rfl 31 (sxC Y) (0, 0) _ HY0.out Try.underlying31 rfl (by kernel_rfl) ?_) | (refine wpList_store_row rfl 31 _ _ rfl g (sxC Y) rfl rfl 31 Zsx HY1.out (by kernel_rfl) rfl (sx_ones _) ?_))
              refine ret_five (g := g) rfl rfl (setRow_heap _ _ _ _ _ _ HY1.out) Try.underlying31 rfl (by kernel_rfl) rfl ?_
              exact ⟨by rw [HV1.out HOT.out]; rfl, below_setRow HYB.out (by have := HG.out; omega) _⟩
            · have hfz3 := frozen_of_row w1 w.heap.size 3 _ _ HX0b.out
              rw [show (true || true) = true from by first | rfl | simp] at HYC
              go_upto_region 10 with (fail)
              rw [put3S HX0b.out]
              have HZ0 := Lib.hid (setRow_heap _ _ _ #[.int .u32 x.first, .string ⟨x.all.toArray⟩, .int .i64 (x.acked : Int), .int .i64 (sn : Int), .bool fe, .bool true] _ _ HX0b.out)
              have HZ1 := Lib.hid ((setRow_other w1 w.heap.size g #[.int .u32 x.first, .string ⟨x.all.toArray⟩, .int .i64 (x.acked : Int), .int .i64 (sn : Int), .bool fe, .bool true] (show g ≠ w.heap.size by have := HG.out; omega)).trans HX1.out)
              have HZB := Lib.hid (below_setRow HB1.out (Nat.le_refl _) #[.int .u32 x.first, .string ⟨x.all.toArray⟩, .int .i64 (x.acked : Int), .int .i64 (sn : Int), .bool fe, .bool true])
              generalize w1.setRow w.heap.size #[.int .u32 x.first, .string ⟨x.all.toArray⟩, .int .i64 (x.acked : Int), .int .i64 (sn : Int), .bool fe, .bool true] = w3 at HZ0 HZ1 HZB ⊢
              clear c0 c1 c2 c3 c4 c5 hfz3 HX0 HX0b HX1 HB1
              have d5 : w3.cell? ⟨w.heap.size, 5, none⟩ = some (.bool true) := by rw [cell_of_row _ _ _ _ _ _ HZ0.out]; rfl
              have hfz5 := frozen_of_row w3 w.heap.size 5 _ _ HZ0.out
              go_upto_region 11 with (fail)
              rw [put5S HZ0.out]
              have HY0 := Lib.hid (setRow_heap _ _ _ (sxC Y) _ _ HZ0.out)
              have HY1 := Lib.hid ((setRow_other w3 w.heap.size g (sxC Y) (show g ≠ w.heap.size by have := HG.out; omega)).trans HZ1.out)
              have HYB := Lib.hid (below_setRow HZB.out (Nat.le_refl _) (sxC Y))
              rw [← HYC.out]
              generalize w3.setRow w.heap.size (sxC Y) = w4 at HY0 HY1 HYB ⊢
              clear d5 hfz5 HZ0 HZ1 HZB HYC
              go_wp2_with (first | (refine wpList_load_row rfl 31 _ rfl w.heap.size rfl 31 (sxC Y) (0, 0) _ HY0.out Try.underlying31 rfl (by kernel_rfl) ?_) | (refine wpList_store_row rfl 31 _ _ rfl g (sxC Y) rfl rfl 31 Zsx HY1.out (by kernel_rfl) rfl (sx_ones _) ?_))
              refine ret_five (g := g) rfl rfl (setRow_heap _ _ _ _ _ _ HY1.out) Try.underlying31 rfl (by kernel_rfl) rfl ?_
              exact ⟨by rw [HV1.out HOT.out]; rfl, below_setRow HYB.out (by have := HG.out; omega) _⟩
        · have hnz : nn ≠ 0 := by have := HABL.out; simp at this; omega
          have HOT : Hid (OO = true) := by have h9 := HO.out; show _ = _; rw [h9, decide_eq_true hnz, Bool.true_or]
          go_wp2_with fail
          refine (sqrefadd_any x.first (sn : Int) _ HF3.out.1 HF3.out.2 (by omega) (by omega)).mono ?_
          rintro e w2 ⟨rfl, rfl⟩
          cases fs
          · have hfz3 := frozen_of_row w1 w.heap.size 3 _ _ HX0b.out
            rw [show (false || EB) = EB from by first | rfl | simp] at HYC
            go_upto_region 10 with (fail)
            rw [put3S HX0b.out]
            have HZ0 := Lib.hid (setRow_heap _ _ _ #[.int .u32 x.first, .string ⟨x.all.toArray⟩, .int .i64 (x.acked : Int), .int .i64 ((sn : Int) + (nn : Int)), .bool fe, .bool false] _ _ HX0b.out)
            have HZ1 := Lib.hid ((setRow_other w1 w.heap.size g #[.int .u32 x.first, .string ⟨x.all.toArray⟩, .int .i64 (x.acked : Int), .int .i64 ((sn : Int) + (nn : Int)), .bool fe, .bool false] (show g ≠ w.heap.size by have := HG.out; omega)).trans HX1.out)
            have HZB := Lib.hid (below_setRow HB1.out (Nat.le_refl _) #[.int .u32 x.first, .string ⟨x.all.toArray⟩, .int .i64 (x.acked : Int), .int .i64 ((sn : Int) + (nn : Int)), .bool fe, .bool false])
            generalize w1.setRow w.heap.size #[.int .u32 x.first, .string ⟨x.all.toArray⟩, .int .i64 (x.acked : Int), .int .i64 ((sn : Int) + (nn : Int)), .bool fe, .bool false] = w3 at HZ0 HZ1 HZB ⊢
            clear c0 c1 c2 c3 c4 c5 hfz3 HX0 HX0b HX1 HB1
            have d5 : w3.cell? ⟨w.heap.size, 5, none⟩ = some (.bool false) := by rw [cell_of_row _ _ _ _ _ _ HZ0.out]; rfl
            have hfz5 := frozen_of_row w3 w.heap.size 5 _ _ HZ0.out
            go_upto_region 11 with (fail)
            rw [put5S HZ0.out]
            have HY0 := Lib.hid (setRow_heap _ _ _ (sxC Y) _ _ HZ0.out)
            have HY1 := Lib.hid ((setRow_other w3 w.heap.size g (sxC Y) (show g ≠ w.heap.size by have := HG.out; omega)).trans HZ1.out)
            have HYB := Lib.hid (below_setRow HZB.out (Nat.le_refl _) (sxC Y))
            rw [← HYC.out]
            generalize w3.setRow w.heap.size (sxC Y) = w4 at HY0 HY1 HYB ⊢
            clear d5 hfz5 HZ0 HZ1 HZB HYC
            go_wp2_with (first | (refine wpList_load_row rfl 31 _ rfl w.heap.size rfl 31 (sxC Y) (0, 0) _ HY0.out Try.underlying31 rfl (by kernel_rfl) ?_) | (refine wpList_store_row rfl 31 _ _ rfl g (sxC Y) rfl rfl 31 Zsx HY1.out (by kernel_rfl) rfl (sx_ones _) ?_))
            refine ret_five (g := g) rfl rfl (setRow_heap _ _ _ _ _ _ HY1.out) Try.underlying31 rfl (by kernel_rfl) rfl ?_
            exact ⟨by rw [HV1.out HOT.out]; rfl, below_setRow HYB.out (by have := HG.out; omega) _⟩
          · have hfz3 := frozen_of_row w1 w.heap.size 3 _ _ HX0b.out
            rw [show (true || EB) = true from by first | rfl | simp] at HYC
            go_upto_region 10 with (fail)
            rw [put3S HX0b.out]
            have HZ0 := Lib.hid (setRow_heap _ _ _ #[.int .u32 x.first, .string ⟨x.all.toArray⟩, .int .i64 (x.acked : Int), .int .i64 ((sn : Int) + (nn : Int)), .bool fe, .bool true] _ _ HX0b.out)
            have HZ1 := Lib.hid ((setRow_other w1 w.heap.size g #[.int .u32 x.first, .string ⟨x.all.toArray⟩, .int .i64 (x.acked : Int), .int .i64 ((sn : Int) + (nn : Int)), .bool fe, .bool true] (show g ≠ w.heap.size by have := HG.out; omega)).trans HX1.out)
            have HZB := Lib.hid (below_setRow HB1.out (Nat.le_refl _) #[.int .u32 x.first, .string ⟨x.all.toArray⟩, .int .i64 (x.acked : Int), .int .i64 ((sn : Int) + (nn : Int)), .bool fe, .bool true])
            generalize w1.setRow w.heap.size #[.int .u32 x.first, .string ⟨x.all.toArray⟩, .int .i64 (x.acked : Int), .int .i64 ((sn : Int) + (nn : Int)), .bool fe, .bool true] = w3 at HZ0 HZ1 HZB ⊢
            clear c0 c1 c2 c3 c4 c5 hfz3 HX0 HX0b HX1 HB1
            have d5 : w3.cell? ⟨w.heap.size, 5, none⟩ = some (.bool true) := by rw [cell_of_row _ _ _ _ _ _ HZ0.out]; rfl
            have hfz5 := frozen_of_row w3 w.heap.size 5 _ _ HZ0.out
            go_upto_region 11 with (fail)
            rw [put5S HZ0.out]
            have HY0 := Lib.hid (setRow_heap _ _ _ (sxC Y) _ _ HZ0.out)
            have HY1 := Lib.hid ((setRow_other w3 w.heap.size g (sxC Y) (show g ≠ w.heap.size by have := HG.out; omega)).trans HZ1.out)
            have HYB := Lib.hid (below_setRow HZB.out (Nat.le_refl _) (sxC Y))
            rw [← HYC.out]
            generalize w3.setRow w.heap.size (sxC Y) = w4 at HY0 HY1 HYB ⊢
            clear d5 hfz5 HZ0 HZ1 HZB HYC
            go_wp2_with (first | (refine wpList_load_row rfl 31 _ rfl w.heap.size rfl 31 (sxC Y) (0, 0) _ HY0.out Try.underlying31 rfl (by kernel_rfl) ?_) | (refine wpList_store_row rfl 31 _ _ rfl g (sxC Y) rfl rfl 31 Zsx HY1.out (by kernel_rfl) rfl (sx_ones _) ?_))
            refine ret_five (g := g) rfl rfl (setRow_heap _ _ _ _ _ _ HY1.out) Try.underlying31 rfl (by kernel_rfl) rfl ?_
            exact ⟨by rw [HV1.out HOT.out]; rfl, below_setRow HYB.out (by have := HG.out; omega) _⟩
end Go.Proofs.Ytebflcpoecolbaa
