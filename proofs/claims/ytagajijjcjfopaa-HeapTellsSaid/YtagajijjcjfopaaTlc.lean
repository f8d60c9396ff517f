/-
  What HeapTells' closure does: a page of one heap is told to the other. No condition.
-/
import Derived.Test.YtagajijjcjfopaaTlm
namespace Go.Proofs.Ytagajijjcjfopaa
open Go.RowKit

theorem twoh_end {B B' : List UInt8} {L L' : List Bk} {D D' : List Bool} {w5 : World} {z1 z2 z3 u1 u2 u3 : Value} {a b base base' : Nat} {o1 o2 : Array Value} (hab : a ≠ b) (hh : HpV base B L D w5 z1 z2 z3) (hr : HpV base' B' L' D' w5 u1 u2 u3) (hM : w5.heap[a]? = some (.cells o1 29 (0, 0))) (hK : w5.heap[b]? = some (.cells o2 29 (0, 0))) :
    VarH a B L D ((w5.setRow a #[z1, z2, z3]).setRow b #[u1, u2, u3]) ∧ VarH b B' L' D' ((w5.setRow a #[z1, z2, z3]).setRow b #[u1, u2, u3]) := by
  have hM2 := setRow_heap w5 a _ #[z1, z2, z3] _ _ hM
  have hMK : (w5.setRow a #[z1, z2, z3]).heap[b]? = some (.cells o2 29 (0, 0)) := (setRow_other _ _ _ _ (fun e => hab e.symm)).trans hK
  refine ⟨⟨z1, z2, z3, (setRow_other _ _ _ _ hab).trans hM2, ?_⟩, ⟨u1, u2, u3, setRow_heap _ _ _ _ _ _ hMK, ?_⟩⟩
  · exact ((hh.wide (Nat.zero_le _)).other hM (by decide) (by decide) (by decide) (setRow_cells _ _ _)).other hMK (by decide) (by decide) (by decide) (setRow_cells _ _ _)
  · exact ((hr.wide (Nat.zero_le _)).other hM (by decide) (by decide) (by decide) (setRow_cells _ _ _)).other hMK (by decide) (by decide) (by decide) (setRow_cells _ _ _)
def TellC (N M p : Nat) (B : List UInt8) (L : List Bk) (D : List Bool) (C : List UInt8) (K : List Bk) (E : List Bool) (w : World) (e : Ending) (w' : World) : Prop :=
  e = .returned (.bool true) ∧ VarH N B L (D.set p false) w' ∧ VarH M (putB C (64 * p) (pageB B p)) K E w' ∧ (∀ b, b ≤ N → b ≤ M → Below b w w') ∧ ∀ b, b < w.heap.size → b ≠ N → b ≠ M → w'.heap[b]? = w.heap[b]?

set_option maxRecDepth 100000 in
set_option maxHeartbeats 4000000 in
theorem tellc_any {B C : List UInt8} {L K : List Bk} {D E : List Bool} (p N M : Nat) (w : World) (hh : VarH N B L D w) (hc : VarH M C K E w) (hR : RightH B L D) (hRC : RightH C K E) (hNM : N ≠ M) (hp : p < D.length) (hE : E.length = D.length) :
    Calls Try.prog 22 #[.int .i64 (p : Int), .pointer (some ⟨N, 0, none⟩), .pointer (some ⟨M, 0, none⟩)] w (TellC N M p B L D C K E w) := by
  unfold TellC
  have hl := hh.lt
  have hl2 := hc.lt
  obtain ⟨v1, v2, v3, hx, hp1⟩ := hh
  obtain ⟨u1, u2, u3, hxc, hpc⟩ := hc
  have hd := hR.most
  have hlen := hR.len
  have hlenC := hRC.len
  have hto : tellO B D (p : Int) = (D.set p false, pageB B p, 0) := by
    unfold tellO
    rw [if_pos ⟨by omega, by omega⟩]
    rfl
  have hho : hearO C E.length (p : Int) (pageB B p) = (putB C (64 * p) (pageB B p), 0) := by
    unfold hearO
    rw [if_pos ⟨by omega, by omega⟩, if_pos (pageB_len (by omega))]
    rfl
  have hpi : I64 (p : Int) := ⟨by omega, by omega⟩
  have hta := tell_any (p : Int) w hp1.shut hR hpi
  rw [hto] at hta
  have HTA := Lib.hid hta
  have HHO := Lib.hid hho
  have HPI := Lib.hid hpi
  have HPL : Hid ((pageB B p).length = 64) := pageB_len (by omega)
  have HX := Lib.hid hx
  have HXC := Lib.hid hxc
  have HPC := Lib.hid hpc
  have HRC := Lib.hid hRC
  clear hta hto hho hpi hx hxc hpc hp1 hR hRC hlen hlenC
  go_enter Try.func22, Try.ntmps22
  go_wp2_with (refine wpList_load_row rfl 29 _ rfl N rfl 29 #[v1, v2, v3] (0, 0) _ HX.out Try.underlying29 rfl (by kernel_rfl) ?_)
  refine HTA.out.mono ?_
  rintro e w1 ⟨v, ub, rfl, ⟨z1, z2, z3, rfl, hz⟩, hub, hb1⟩
  have HOZ := Lib.hid hz.ones
  obtain ⟨Ya, la, ca, Yb, lb, cb, Yc, lc, cc, rfl, rfl, rfl⟩ := hz.forms_
  have hbb := hb1.alloc hb1.size (.cells #[.slice Ya la ca, .slice Yb lb cb, .slice Yc lc cc] 29)
  have HX2 := Lib.hid (old_below HX.out hbb (row_lt HX.out))
  have HXC2 := Lib.hid (old_below HXC.out hbb (row_lt HXC.out))
  have HPC2 := Lib.hid (HPC.out.below hbb)
  have HZ2 := Lib.hid (hz.alloc (.cells #[.slice Ya la ca, .slice Yb lb cb, .slice Yc lc cc] 29))
  have HN2 := Lib.hid (heap_alloc_new w1 (.cells #[.slice Ya la ca, .slice Yb lb cb, .slice Yc lc cc] 29))
  have hub2 := ownk_below hub ((Below.refl _ _).alloc (Nat.le_refl _) (.cells #[.slice Ya la ca, .slice Yb lb cb, .slice Yc lc cc] 29)) (Nat.le_refl _)
  rw [HPL.out] at hub2
  obtain ⟨Au, cu, rfl, -⟩ := ownk_form hub2
  have HRU := Lib.hid (ownk_rd hub2)
  have HB2 := Lib.hid hbb
  have HP5 : Hid (w.heap.size ≤ w1.heap.size) := hb1.size
  clear hz hub hub2 hb1 hbb
  go_upto_region 2 with (first | refine wpList_store_new rfl 29 _ _ rfl w1 #[.slice none 0 0, .slice none 0 0, .slice none 0 0] #[.slice Ya la ca, .slice Yb lb cb, .slice Yc lc cc] rfl rfl (by kernel_rfl) rfl HOZ.out ?_)
  generalize w1.alloc (.cells #[.slice Ya la ca, .slice Yb lb cb, .slice Yc lc cc] 29) = w2 at HX2 HXC2 HPC2 HZ2 HN2 HRU HB2 ⊢
  generalize w1.heap.size = P at HN2 HP5 ⊢
  have hha := hear_any (p : Int) Au cu 64 w.heap.size w2.heap.size (pageB B p) w2 HPC2.out.shut HRC.out HPI.out HPL.out (by omega) HRU.out (Nat.le_refl _)
  rw [HHO.out] at hha
  have HHA := Lib.hid hha
  clear hha
  go_wp2_with (refine wpList_load_row rfl 29 _ rfl M rfl 29 #[u1, u2, u3] (0, 0) _ HXC2.out Try.underlying29 rfl (by kernel_rfl) ?_)
  refine HHA.out.mono ?_
  rintro e w3 ⟨v, rfl, ⟨y1, y2, y3, rfl, hy⟩, hb3⟩
  have HOY := Lib.hid hy.ones
  obtain ⟨Xa, ka, xa, Xb, kb, xb, Xc, kc, xc, rfl, rfl, rfl⟩ := hy.forms_
  have hbb := hb3.alloc hb3.size (.cells #[.slice Xa ka xa, .slice Xb kb xb, .slice Xc kc xc] 29)
  have HX4 := Lib.hid (old_below HX2.out hbb (row_lt HX2.out))
  have HXC4 := Lib.hid (old_below HXC2.out hbb (row_lt HXC2.out))
  have HN4 := Lib.hid (old_below HN2.out hbb (row_lt HN2.out))
  have HZ4 := Lib.hid (HZ2.out.below hbb)
  have HY4 := Lib.hid (hy.alloc (.cells #[.slice Xa ka xa, .slice Xb kb xb, .slice Xc kc xc] 29))
  have HQ4 := Lib.hid (heap_alloc_new w3 (.cells #[.slice Xa ka xa, .slice Xb kb xb, .slice Xc kc xc] 29))
  have HB4 := Lib.hid (HB2.out.trans (hbb.mono HB2.out.size))
  have HPQ : Hid (P < w3.heap.size) := Nat.lt_of_lt_of_le (row_lt HN2.out) hb3.size
  clear hy hb3 hbb
  go_upto_region 3 with (first | refine wpList_store_new rfl 29 _ _ rfl w3 #[.slice none 0 0, .slice none 0 0, .slice none 0 0] #[.slice Xa ka xa, .slice Xb kb xb, .slice Xc kc xc] rfl rfl (by kernel_rfl) rfl HOY.out ?_)
  generalize w3.alloc (.cells #[.slice Xa ka xa, .slice Xb kb xb, .slice Xc kc xc] 29) = w4 at HX4 HXC4 HN4 HZ4 HY4 HQ4 HB4 ⊢
  generalize w3.heap.size = Q at HQ4 HPQ ⊢
  obtain ⟨a0, a1, a2⟩ := three_cells HN4.out
  obtain ⟨b0, b1, b2⟩ := three_cells HQ4.out
  obtain ⟨p0, p1, p2⟩ := three_cells HX4.out
  obtain ⟨q0, q1, q2⟩ := three_cells HXC4.out
  have g0 := frozen_of_row w4 N 0 _ _ HX4.out
  have g1 := frozen_of_row w4 N 1 _ _ HX4.out
  have g2 := frozen_of_row w4 N 2 _ _ HX4.out
  have k0 := frozen_of_row w4 M 0 _ _ HXC4.out
  have k1 := frozen_of_row w4 M 1 _ _ HXC4.out
  have k2 := frozen_of_row w4 M 2 _ _ HXC4.out
  have hpq := HPQ.out
  have hp5 := HP5.out
  have d1 : ¬ N = P := by omega
  have d2 : ¬ N = Q := by omega
  have d3 : ¬ M = P := by omega
  have d4 : ¬ M = Q := by omega
  have d5 : ¬ P = N := by omega
  have d6 : ¬ Q = N := by omega
  have d7 : ¬ P = M := by omega
  have d8 : ¬ Q = M := by omega
  have d9 : ¬ N = M := hNM
  have d0 : ¬ M = N := by omega
  have HE1 := Lib.hid (twoh_end d9 HZ4.out HY4.out HX4.out HXC4.out)
  have HE2 := Lib.hid (twoh_end d0 HY4.out HZ4.out HXC4.out HX4.out)
  go_region
  all_goals first
    | (rw [row3 HX4.out, row3 (w := w4.setRow N _) ((setRow_other _ _ _ _ d0).trans HXC4.out)]
       go_wp2
       go_ret
       exact ⟨rfl, HE1.out.1.below (below_drewN' (Below.refl _ _) 1), HE1.out.2.below (below_drewN' (Below.refl _ _) 1), fun b hb hb2 => below_drewN' (below_setRow (below_setRow (HB4.out.mono (by omega)) hb _) hb2 _) 1, fun b hb h1 h2 => ((setRow_other _ _ _ _ h2).trans (setRow_other _ _ _ _ h1)).trans (HB4.out.block b hb)⟩)
    | (rw [row3 HXC4.out, row3 (w := w4.setRow M _) ((setRow_other _ _ _ _ d9).trans HX4.out)]
       go_wp2
       go_ret
       exact ⟨rfl, HE2.out.2.below (below_drewN' (Below.refl _ _) 1), HE2.out.1.below (below_drewN' (Below.refl _ _) 1), fun b hb hb2 => below_drewN' (below_setRow (below_setRow (HB4.out.mono (by omega)) hb2 _) hb _) 1, fun b hb h1 h2 => ((setRow_other _ _ _ _ h1).trans (setRow_other _ _ _ _ h2)).trans (HB4.out.block b hb)⟩)
end Go.Proofs.Ytagajijjcjfopaa
