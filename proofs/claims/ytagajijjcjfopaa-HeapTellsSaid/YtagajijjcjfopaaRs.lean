/-
  The document's Store and Load. No condition.
-/
import Derived.Test.YtagajijjcjfopaaRg
namespace Go.Proofs.Ytagajijjcjfopaa
open Go.RowKit

set_option maxRecDepth 100000 in
set_option maxHeartbeats 1000000 in
theorem refstore_any {B : List UInt8} {L : List Bk} {D : List Bool} {v : Value} (x : Int) (l : List UInt8) (w : World) (hv : Rf B L D v w) (hR : RightH B L D) (hx : I64 x) (hl : l.length ≤ 100000) :
    Calls Try.prog 27 #[v, .int .i64 x, .string ⟨l.toArray⟩] w fun e w' => ∃ v', e = .returned (.tuple #[v', .int .i64 (storeO B L D x l).2.2]) ∧ Rf (storeO B L D x l).1 L (storeO B L D x l).2.1 v' w' ∧ Below w.heap.size w w' := by
  obtain ⟨n, hn⟩ : ∃ k, l.length = k := ⟨_, rfl⟩
  obtain ⟨Z, hZ⟩ : ∃ Z : ByteArray, ⟨l.toArray⟩ = Z := ⟨_, rfl⟩
  have hZz : Z.size = n := by rw [← hZ, ← hn]; rfl
  rw [hZ]
  rw [hn] at hl
  have HZ := Lib.hid hZ
  have HN := Lib.hid hn
  have HIX := Lib.hid hx
  clear hn hZ hx
  obtain ⟨nb, hnb⟩ : ∃ k, B.length = k := ⟨_, rfl⟩
  obtain ⟨nk, hnk⟩ : ∃ k, L.length = k := ⟨_, rfl⟩
  obtain ⟨nd, hnd⟩ : ∃ k, D.length = k := ⟨_, rfl⟩
  obtain ⟨v1, v2, v3, rfl, hv⟩ := hv
  obtain ⟨A2, c2, A3, c3, rfl, rfl, rfl⟩ := hv.forms hnk hnd
  obtain ⟨S, hS⟩ : ∃ S : ByteArray, ⟨B.toArray⟩ = S := ⟨_, rfl⟩
  have hSz : S.size = nb := by rw [← hS, ← hnb]; rfl
  have hnd64 : nd ≤ 64 := by rw [← hnd]; exact hR.most
  have hnb64 : nb = 64 * nd := by rw [← hnb, ← hnd]; exact hR.len
  have hmy : nk ≤ 4096 := by have := hR.many; have := hR.bytes; omega
  rw [hS] at hv ⊢
  have HS := Lib.hid hS
  have HNB := Lib.hid hnb
  have HNK := Lib.hid hnk
  have HND := Lib.hid hnd
  have HR := Lib.hid hR
  go_enter Try.func27, Try.ntmps27
  go_upto_region 1 with (fail)
  obtain ⟨w1, hw1⟩ : ∃ w1, (w.alloc (.cells #[.string S, .slice A2 nk c2, .slice A3 nd c3] 35)).alloc (.cells #[.string ⟨#[]⟩, .slice none 0 0, .slice none 0 0] 35) = w1 := ⟨_, rfl⟩
  obtain ⟨hb1, hx1, hy1, hv1⟩ := ref_start hv hw1
  have HB1 := Lib.hid hb1
  have HX := Lib.hid hx1
  have HY := Lib.hid hy1
  have HV := Lib.hid hv1
  rw [hw1]
  clear hb1 hx1 hy1 hv1 hw1 hv hnb hnk hnd hR hS
  go_wp2_with (refine wpList_load_row rfl 35 _ rfl w.heap.size rfl 35 #[.string S, .slice A2 nk c2, .slice A3 nd c3] (0, 0) _ HX.out Try.underlying35 rfl (by kernel_rfl) ?_)
  refine (refin_any x n w1 HV.out.shut HR.out HIX.out (by omega) (by omega)).mono ?_
  rintro e w2 ⟨rfl, hb2⟩
  have HX2 := Lib.hid (old_below HX.out hb2 (row_lt HX.out))
  have HY2 := Lib.hid (old_below HY.out hb2 (row_lt HY.out))
  have HV2 := Lib.hid (HV.out.below hb2)
  have HB2 := Lib.hid (HB1.out.trans (hb2.mono HB1.out.size))
  clear hb2 HX HY HV
  cases hg : givenB L x n
  · have HRES : Hid (storeO B L D x l = (B, D, 2)) := by
      show _ = _
      unfold storeO
      rw [HN.out, if_neg (by rw [hg]; decide)]
    have HO := Lib.hid HV2.out.ones
    have hend := ref_end HV2.out HY2.out HB2.out (Nat.le_succ _)
    clear hg
    go_wp2_with (first | refine wpList_load_row rfl 35 _ rfl w.heap.size rfl 35 #[.string S, .slice A2 nk c2, .slice A3 nd c3] (0, 0) _ HX2.out Try.underlying35 rfl (by kernel_rfl) ?_ | refine wpList_store_row rfl 35 _ _ rfl (w.heap.size + 1) #[.string S, .slice A2 nk c2, .slice A3 nd c3] rfl rfl 35 _ HY2.out (by kernel_rfl) rfl HO.out ?_)
    refine ret_two (g := w.heap.size + 1) rfl rfl hend.2.2 Try.underlying35 rfl (by kernel_rfl) rfl ?_
    rw [HRES.out]
    exact ⟨_, rfl, hend.1, hend.2.1⟩
  · have hin := given_in HR.out.blk (by omega) hg
    rw [HNB.out] at hin
    obtain ⟨a, rfl⟩ : ∃ a : Nat, x = (a : Int) := ⟨x.toNat, by omega⟩
    have HRES : Hid (storeO B L D (a : Int) l = (putB B a l, markD D a l.length, 0)) := by
      show _ = _
      unfold storeO
      rw [HN.out, if_pos hg]
      rfl
    have hcall := refput_any a l w2 HV2.out.shut (by rw [HN.out, HNB.out]; omega) HR.out.bytes HR.out.most
    rw [HZ.out] at hcall
    have HCALL := Lib.hid hcall
    clear hcall hg
    go_wp2_with (refine wpList_load_row rfl 35 _ rfl w.heap.size rfl 35 #[.string S, .slice A2 nk c2, .slice A3 nd c3] (0, 0) _ HX2.out Try.underlying35 rfl (by kernel_rfl) ?_)
    refine HCALL.out.mono ?_
    rintro e w3 ⟨v', rfl, ⟨z1, z2, z3, rfl, hv3⟩, hb3⟩
    have HO := Lib.hid hv3.ones
    have HY3 := Lib.hid (old_below HY2.out hb3 (row_lt HY2.out))
    have hend := ref_end hv3 HY3.out (HB2.out.trans (hb3.mono HB2.out.size)) (Nat.le_succ _)
    clear hb3
    go_wp2_with (refine wpList_store_row rfl 35 _ _ rfl (w.heap.size + 1) #[z1, z2, z3] rfl rfl 35 _ HY3.out (by kernel_rfl) rfl HO.out ?_)
    refine ret_two (g := w.heap.size + 1) rfl rfl hend.2.2 Try.underlying35 rfl (by kernel_rfl) rfl ?_
    rw [HRES.out]
    exact ⟨_, rfl, hend.1, hend.2.1⟩

theorem ret_tmp2 {P : Program} {fn : Func} {R : Ending → World → Prop} {a : Act} {w : World} {u u1 : Tmp} (h : fn.results = #[.tmp u, .tmp u1]) (hdf : a.defers = []) (hR : R (.returned (.tuple #[a.tmps.getD u undef, a.tmps.getD u1 undef])) w) : bodyPost P fn R .ret a w := by
  refine bodyPost_ret (v := .tuple #[a.tmps.getD u undef, a.tmps.getD u1 undef]) ?_ hdf hR
  simp [results, h]
set_option maxRecDepth 100000 in
set_option maxHeartbeats 1000000 in
theorem refload_any {B : List UInt8} {L : List Bk} {D : List Bool} {v : Value} (x n : Int) (w : World) (hv : Rf B L D v w) (hR : RightH B L D) (hx : I64 x) (hn : I64 n) :
    Calls Try.prog 28 #[v, .int .i64 x, .int .i64 n] w fun e w' => e = .returned (.tuple #[.string ⟨(loadO B L x n).1.toArray⟩, .int .i64 (loadO B L x n).2]) ∧ Below w.heap.size w w' := by
  obtain ⟨nb, hnb⟩ : ∃ k, B.length = k := ⟨_, rfl⟩
  obtain ⟨nk, hnk⟩ : ∃ k, L.length = k := ⟨_, rfl⟩
  obtain ⟨nd, hnd⟩ : ∃ k, D.length = k := ⟨_, rfl⟩
  obtain ⟨v1, v2, v3, rfl, hv⟩ := hv
  obtain ⟨A2, c2, A3, c3, rfl, rfl, rfl⟩ := hv.forms hnk hnd
  obtain ⟨S, hS⟩ : ∃ S : ByteArray, ⟨B.toArray⟩ = S := ⟨_, rfl⟩
  have hSz : S.size = nb := by rw [← hS, ← hnb]; rfl
  have hb4 : nb ≤ 4096 := by rw [← hnb]; exact hR.bytes
  rw [hS] at hv ⊢
  have HS := Lib.hid hS
  have HNB := Lib.hid hnb
  have HR := Lib.hid hR
  have HIX := Lib.hid hx
  have HIN := Lib.hid hn
  unfold I64 at hn
  have HB1 : Hid (Below w.heap.size w (w.alloc (.cells #[.string S, .slice A2 nk c2, .slice A3 nd c3] 35))) := (Below.refl _ _).alloc (Nat.le_refl _) _
  have HX := Lib.hid (heap_alloc_new w (.cells #[.string S, .slice A2 nk c2, .slice A3 nd c3] 35))
  have HV := Lib.hid (hv.alloc (.cells #[.string S, .slice A2 nk c2, .slice A3 nd c3] 35))
  clear hv hnb hnk hnd hR hS hx
  go_enter Try.func28, Try.ntmps28
  go_upto_region 1 with (fail)
  generalize w.alloc (.cells #[.string S, .slice A2 nk c2, .slice A3 nd c3] 35) = w1 at HB1 HX HV ⊢
  generalize w.heap.size = b1 at HX ⊢
  by_cases h0 : n < 0
  · have HRES : Hid (loadO B L x n = ([], 1)) := by show _ = _; unfold loadO; rw [if_pos h0]
    go_wp2
    refine ret_tmp2 rfl rfl ?_
    rw [HRES.out]
    exact ⟨rfl, HB1.out⟩
  go_wp2_with (refine wpList_load_row rfl 35 _ rfl b1 rfl 35 #[.string S, .slice A2 nk c2, .slice A3 nd c3] (0, 0) _ HX.out Try.underlying35 rfl (by kernel_rfl) ?_)
  refine (refin_any x n w1 HV.out.shut HR.out HIX.out (by omega) (by omega)).mono ?_
  rintro e w2 ⟨rfl, hb2⟩
  have HX2 := Lib.hid (old_below HX.out hb2 (row_lt HX.out))
  have HB2 := Lib.hid (HB1.out.trans (hb2.mono HB1.out.size))
  clear hb2 HX HV
  cases hg : givenB L x n
  · have HRES : Hid (loadO B L x n = ([], 2)) := by
      show _ = _
      unfold loadO
      rw [if_neg (by omega), if_neg (by rw [hg]; decide)]
    clear hg
    go_wp2
    refine ret_tmp2 rfl rfl ?_
    rw [HRES.out]
    exact ⟨rfl, HB2.out⟩
  · have hin := given_in HR.out.blk (by omega) hg
    rw [HNB.out] at hin
    obtain ⟨a, rfl⟩ : ∃ a : Nat, x = (a : Int) := ⟨x.toNat, by omega⟩
    obtain ⟨m, rfl⟩ : ∃ m : Nat, n = (m : Int) := ⟨n.toNat, by omega⟩
    have HRES : Hid (loadO B L (a : Int) (m : Int) = ((B.drop a).take m, 0)) := by
      show _ = _
      unfold loadO
      rw [if_neg (by omega), if_pos hg]
      rfl
    have HE : Hid (S.extract a (a + m) = ⟨((B.drop a).take m).toArray⟩) := by
      show _ = _
      rw [← HS.out, Lib.extract_eq, Nat.add_sub_cancel_left]
    clear hg
    obtain ⟨x0, x1, x2⟩ := three_cells HX2.out
    have ha1 : (a : Int) ≤ (a : Int) + (m : Int) := by omega
    have ha2 : (a : Int) + (m : Int) ≤ (nb : Int) := by omega
    have ha3 : a ≤ a + m := by omega
    go_wp2
    refine ret_tmp2 rfl rfl ?_
    rw [HRES.out]
    refine ⟨?_, HB2.out⟩
    show Ending.returned (.tuple #[.string (S.extract a (a + m)), .int .i64 0]) = _
    rw [HE.out]
end Go.Proofs.Ytagajijjcjfopaa
