/-
  What the laws do with a heap and with the document's, where both hold the same. No condition.
-/
import Derived.Test.YtagajijjcjfopaaRa
import Derived.Test.YtagajijjcjfopaaRd
import Derived.Test.YtagajijjcjfopaaRl
import Derived.Test.YtagajijjcjfopaaRn
import Derived.Test.YtagajijjcjfopaaRs
import Derived.Test.YtagajijjcjfopaaMathH
namespace Go.Proofs.Ytagajijjcjfopaa
open Go.RowKit

/-- what is done with bytes, blocks, pages -/
def stepO (r : Nat) (x n : Int) (d : List UInt8) (sh : Bool) (s : List UInt8 × List Bk × List Bool) : List UInt8 × List Bk × List Bool :=
  if r = 0 ∨ r = 1 then (s.1, (allocO s.1.length s.2.1 n).1, s.2.2)
  else if r = 2 then ((freeO s.1 s.2.1 s.2.2 x).1, (freeO s.1 s.2.1 s.2.2 x).2.1, (freeO s.1 s.2.1 s.2.2 x).2.2.1)
  else if r = 3 ∨ r = 4 then ((storeO s.1 s.2.1 s.2.2 x d).1, s.2.1, (storeO s.1 s.2.1 s.2.2 x d).2.1)
  else if r = 5 then s
  else if r = 6 then (s.1, s.2.1, (tellO s.1 s.2.2 x).1)
  else ((hearO s.1 s.2.2.length x (if sh then d else putB (List.replicate 64 0) 0 (d.take 64))).1, s.2.1, s.2.2)
theorem HpV.forms_ {base : Nat} {B : List UInt8} {L : List Bk} {D : List Bool} {w : World} {v1 v2 v3 : Value} (h : HpV base B L D w v1 v2 v3) :
    ∃ A1 n1 c1 A2 n2 c2 A3 n3 c3, v1 = .slice A1 n1 c1 ∧ v2 = .slice A2 n2 c2 ∧ v3 = .slice A3 n3 c3 := by
  obtain ⟨A1, c1, A2, c2, A3, c3, e⟩ := h.forms
  exact ⟨A1, _, c1, A2, _, c2, A3, _, c3, e⟩
theorem RfV.forms_ {B : List UInt8} {L : List Bk} {D : List Bool} {w : World} {v1 v2 v3 : Value} (h : RfV B L D w v1 v2 v3) :
    ∃ S A2 n2 c2 A3 n3 c3, v1 = .string S ∧ v2 = .slice A2 n2 c2 ∧ v3 = .slice A3 n3 c3 := by
  obtain ⟨A2, c2, A3, c3, e⟩ := h.forms rfl rfl
  exact ⟨_, A2, _, c2, A3, _, c3, e⟩
theorem conv_row {w : World} {base n c : Nat} {A : Option Addr} {l : List UInt8} (h : w.ownsRow base 5 1 (.slice A n c) l.length (cells l)) : (convert 25 9 (.slice A n c)).run Try.prog w = .ok (.string ⟨l.toArray⟩) w := by
  obtain ⟨A', c', e, -⟩ := ownk_form h
  injection e with e1 e2 e3
  subst e1 e2 e3
  exact run_text (P := Try.prog) w 25 9 5 (l := l) c Try.underlying25 Try.underlying5 Try.underlying9 (ownk_rd h)
theorem five_at (w : World) (o0 o1 o2 o3 o4 : Obj) :
    (((((w.alloc o0).alloc o1).alloc o2).alloc o3).alloc o4).heap[w.heap.size]? = some o0 ∧ (((((w.alloc o0).alloc o1).alloc o2).alloc o3).alloc o4).heap[w.heap.size + 1]? = some o1 ∧ (((((w.alloc o0).alloc o1).alloc o2).alloc o3).alloc o4).heap[w.heap.size + 2]? = some o2 ∧
      (((((w.alloc o0).alloc o1).alloc o2).alloc o3).alloc o4).heap[w.heap.size + 3]? = some o3 ∧ (((((w.alloc o0).alloc o1).alloc o2).alloc o3).alloc o4).heap[w.heap.size + 4]? = some o4 ∧ Below w.heap.size w (((((w.alloc o0).alloc o1).alloc o2).alloc o3).alloc o4) := by
  have e1 := heap_alloc_new (w.alloc o0) o1
  have e2 := heap_alloc_new ((w.alloc o0).alloc o1) o2
  have e3 := heap_alloc_new (((w.alloc o0).alloc o1).alloc o2) o3
  have e4 := heap_alloc_new ((((w.alloc o0).alloc o1).alloc o2).alloc o3) o4
  simp only [World.size_alloc] at e1 e2 e3 e4
  refine ⟨old_alloc (old_alloc (old_alloc (old_alloc (heap_alloc_new w _) _) _) _) _, old_alloc (old_alloc (old_alloc e1 _) _) _, old_alloc (old_alloc e2 _) _, old_alloc e3 _, e4, ?_⟩
  exact (((((Below.refl _ _).alloc (Nat.le_refl _) _).alloc (by simp) _).alloc (by simp; omega) _).alloc (by simp; omega) _).alloc (by simp; omega) _
theorem ret_cct {P : Program} {fn : Func} {R : Ending → World → Prop} {a : Act} {w : World} {p q u : Tmp} {ty ty2 : TypeId} {g g2 : Nat} {cs ds : Array Value} {t t2 : TypeId} {fr fr2 : Nat × Nat} {d d2 : TypeDesc} (h : fn.results = #[.cell p ty, .cell q ty2, .tmp u]) (hp : a.tmps.getD p undef = .pointer (some ⟨g, 0, none⟩)) (hq : a.tmps.getD q undef = .pointer (some ⟨g2, 0, none⟩))
    (hg : w.heap[g]? = some (.cells cs t fr)) (hu : P.underlying ty = some d) (hd : d.isRow = true) (hi : (P.info? ty).map (·.size) = some cs.size) (hg2 : w.heap[g2]? = some (.cells ds t2 fr2)) (hu2 : P.underlying ty2 = some d2) (hd2 : d2.isRow = true) (hi2 : (P.info? ty2).map (·.size) = some ds.size) (hdf : a.defers = []) (hR : R (.returned (.tuple #[.agg cs, .agg ds, a.tmps.getD u undef])) w) : bodyPost P fn R .ret a w := by
  refine bodyPost_ret (v := .tuple #[.agg cs, .agg ds, a.tmps.getD u undef]) ?_ hdf hR
  have hp' : a.tmps[p]?.getD undef = .pointer (some ⟨g, 0, none⟩) := by simpa using hp
  have hq' : a.tmps[q]?.getD undef = .pointer (some ⟨g2, 0, none⟩) := by simpa using hq
  simp [results, h, hp', hq', asAddr, run_loadVar_row w g t ty cs fr d hg hu (by cases d <;> first | rfl | cases hd) hi, run_loadVar_row w g2 t2 ty2 ds fr2 d2 hg2 hu2 (by cases d2 <;> first | rfl | cases hd2) hi2]
/-- both results laid, in either order -/
theorem step_end {B B' : List UInt8} {L L' : List Bk} {D D' : List Bool} {w w5 : World} {z1 z2 z3 u1 u2 u3 : Value} {N base : Nat} {o1 o2 : Array Value} (hh : HpV base B L D w5 z1 z2 z3) (hr : RfV B' L' D' w5 u1 u2 u3) (hM : w5.heap[N + 3]? = some (.cells o1 29 (0, 0))) (hK : w5.heap[N + 4]? = some (.cells o2 35 (0, 0))) (hb : Below N w w5) :
    (((w5.setRow (N + 3) #[z1, z2, z3]).setRow (N + 4) #[u1, u2, u3]).heap[N + 3]? = some (.cells #[z1, z2, z3] 29 (0, 0)) ∧ ((w5.setRow (N + 3) #[z1, z2, z3]).setRow (N + 4) #[u1, u2, u3]).heap[N + 4]? = some (.cells #[u1, u2, u3] 35 (0, 0)) ∧ Hp 0 B L D (.agg #[z1, z2, z3]) ((w5.setRow (N + 3) #[z1, z2, z3]).setRow (N + 4) #[u1, u2, u3]) ∧ Rf B' L' D' (.agg #[u1, u2, u3]) ((w5.setRow (N + 3) #[z1, z2, z3]).setRow (N + 4) #[u1, u2, u3]) ∧ Below N w ((w5.setRow (N + 3) #[z1, z2, z3]).setRow (N + 4) #[u1, u2, u3])) ∧
    (((w5.setRow (N + 4) #[u1, u2, u3]).setRow (N + 3) #[z1, z2, z3]).heap[N + 3]? = some (.cells #[z1, z2, z3] 29 (0, 0)) ∧ ((w5.setRow (N + 4) #[u1, u2, u3]).setRow (N + 3) #[z1, z2, z3]).heap[N + 4]? = some (.cells #[u1, u2, u3] 35 (0, 0)) ∧ Hp 0 B L D (.agg #[z1, z2, z3]) ((w5.setRow (N + 4) #[u1, u2, u3]).setRow (N + 3) #[z1, z2, z3]) ∧ Rf B' L' D' (.agg #[u1, u2, u3]) ((w5.setRow (N + 4) #[u1, u2, u3]).setRow (N + 3) #[z1, z2, z3]) ∧ Below N w ((w5.setRow (N + 4) #[u1, u2, u3]).setRow (N + 3) #[z1, z2, z3])) := by
  have hM2 := setRow_heap w5 (N + 3) _ #[z1, z2, z3] _ _ hM
  have hK2 := setRow_heap w5 (N + 4) _ #[u1, u2, u3] _ _ hK
  have hMK : (w5.setRow (N + 3) #[z1, z2, z3]).heap[N + 4]? = some (.cells o2 35 (0, 0)) := (setRow_other _ _ _ _ (by omega)).trans hK
  have hKM : (w5.setRow (N + 4) #[u1, u2, u3]).heap[N + 3]? = some (.cells o1 29 (0, 0)) := (setRow_other _ _ _ _ (by omega)).trans hM
  have hh0 := hh.wide (Nat.zero_le _)
  refine ⟨⟨(setRow_other _ _ _ _ (by omega)).trans hM2, setRow_heap _ _ _ _ _ _ hMK, ?_, ?_, below_setRow (below_setRow hb (by omega) _) (by omega) _⟩, ⟨setRow_heap _ _ _ _ _ _ hKM, (setRow_other _ _ _ _ (by omega)).trans hK2, ?_, ?_, below_setRow (below_setRow hb (by omega) _) (by omega) _⟩⟩
  · exact ((hh0.other hM (by decide) (by decide) (by decide) (setRow_cells _ _ _)).other hMK (by decide) (by decide) (by decide) (setRow_cells _ _ _)).shut
  · exact ((hr.other hM (by decide) (by decide) (setRow_cells _ _ _)).other hMK (by decide) (by decide) (setRow_cells _ _ _)).shut
  · exact ((hh0.other hK (by decide) (by decide) (by decide) (setRow_cells _ _ _)).other hKM (by decide) (by decide) (by decide) (setRow_cells _ _ _)).shut
  · exact ((hr.other hK (by decide) (by decide) (setRow_cells _ _ _)).other hKM (by decide) (by decide) (setRow_cells _ _ _)).shut

set_option maxRecDepth 100000 in
set_option maxHeartbeats 8000000 in
theorem step_any {B : List UInt8} {L : List Bk} {D : List Bool} {base : Nat} {hv xv : Value} (kd x n : Int) (A : Option Addr) (m c hi r : Nat) (d : List UInt8) (sh : Bool) (w : World) (hh : Hp base B L D hv w) (hx : Rf B L D xv w) (hR : RightH B L D) (hxi : I64 x) (hni : I64 n) (hd : d.length = m) (hm : m ≤ 300) (hA : A = none → c = 0) (hrd : Rd w 0 hi A (cells d)) (hhi : hi ≤ w.heap.size) (hr8 : r < 8) (hkr : (IntKind.u64.wrap kd).tmod 8 = (r : Int)) :
    Calls Try.prog 13 #[hv, xv, .agg #[.int .i64 kd, .int .i64 x, .int .i64 n, .slice A m c, .bool sh]] w fun e w' => ∃ v1 v2, e = .returned (.tuple #[v1, v2, .bool true]) ∧ Hp 0 (stepO r x n d sh (B, L, D)).1 (stepO r x n d sh (B, L, D)).2.1 (stepO r x n d sh (B, L, D)).2.2 v1 w' ∧ Rf (stepO r x n d sh (B, L, D)).1 (stepO r x n d sh (B, L, D)).2.1 (stepO r x n d sh (B, L, D)).2.2 v2 w' ∧ Below w.heap.size w w' := by
  obtain ⟨nb, hnb⟩ : ∃ k, B.length = k := ⟨_, rfl⟩
  obtain ⟨nk, hnk⟩ : ∃ k, L.length = k := ⟨_, rfl⟩
  obtain ⟨nd, hnd⟩ : ∃ k, D.length = k := ⟨_, rfl⟩
  obtain ⟨v1, v2, v3, rfl, hh⟩ := hh
  obtain ⟨A1, c1, A2, c2, A3, c3, rfl, rfl, rfl⟩ := hh.formsN hnb hnk hnd
  obtain ⟨u1, u2, u3, rfl, hx⟩ := hx
  obtain ⟨A4, c4, A5, c5, rfl, rfl, rfl⟩ := hx.forms hnk hnd
  obtain ⟨w1, hw1⟩ : ∃ w1, (((((w.alloc (.cells #[.slice A1 nb c1, .slice A2 nk c2, .slice A3 nd c3] 29)).alloc (.cells #[.string ⟨B.toArray⟩, .slice A4 nk c4, .slice A5 nd c5] 35)).alloc (.cells #[.int .i64 kd, .int .i64 x, .int .i64 n, .slice A m c, .bool sh] 38)).alloc (.cells #[.slice none 0 0, .slice none 0 0, .slice none 0 0] 29)).alloc (.cells #[.string ⟨#[]⟩, .slice none 0 0, .slice none 0 0] 35)) = w1 := ⟨_, rfl⟩
  obtain ⟨N, hN⟩ : ∃ N, w.heap.size = N := ⟨_, rfl⟩
  have hat := five_at w (.cells #[.slice A1 nb c1, .slice A2 nk c2, .slice A3 nd c3] 29) (.cells #[.string ⟨B.toArray⟩, .slice A4 nk c4, .slice A5 nd c5] 35) (.cells #[.int .i64 kd, .int .i64 x, .int .i64 n, .slice A m c, .bool sh] 38) (.cells #[.slice none 0 0, .slice none 0 0, .slice none 0 0] 29) (.cells #[.string ⟨#[]⟩, .slice none 0 0, .slice none 0 0] 35)
  rw [hw1, hN] at hat
  obtain ⟨hat0, hat1, hat2, hat3, hat4, hbl⟩ := hat
  have HB1 := Lib.hid hbl
  have HX := Lib.hid hat0
  have HXR := Lib.hid hat1
  have HXO := Lib.hid hat2
  have HYH := Lib.hid hat3
  have HYR := Lib.hid hat4
  have HH := Lib.hid (hh.below hbl (by rw [hN]; exact Nat.le_refl _))
  have HV := Lib.hid (hx.below hbl (by rw [hN]; exact Nat.le_refl _))
  have HRD := Lib.hid (hrd.below hbl (by omega))
  have HNB := Lib.hid hnb
  have HNK := Lib.hid hnk
  have HND := Lib.hid hnd
  have HR := Lib.hid hR
  have HIX := Lib.hid hxi
  have HIN := Lib.hid hni
  have HDM := Lib.hid hd
  have HAN := Lib.hid hA
  have HHI : Hid (hi ≤ w1.heap.size) := by have := hbl.size; show _ ≤ _; omega
  have HNS : Hid (N ≤ w1.heap.size) := by have := hbl.size; show _ ≤ _; omega
  rw [hN]
  clear hh hx hnb hnk hnd hR hxi hni hd hA hrd hat0 hat1 hat2 hat3 hat4 hbl hhi
  go_enter Try.func13, Try.ntmps13
  go_upto_region 1 with (fail)
  clear hw1
  obtain ⟨f0, f1, f2, f3, f4⟩ := five_cells HXO.out
  have hr : r = 0 ∨ r = 1 ∨ r = 2 ∨ r = 3 ∨ r = 4 ∨ r = 5 ∨ r = 6 ∨ r = 7 := by omega
  rcases hr with rfl | rfl | rfl | rfl | rfl | rfl | rfl | rfl
  · have HSO : Hid (stepO 0 x n d sh (B, L, D) = (B, (allocO B.length L n).1, D)) := rfl
    go_wp2_with (refine wpList_load_row rfl 29 _ rfl N rfl 29 #[.slice A1 nb c1, .slice A2 nk c2, .slice A3 nd c3] (0, 0) _ HX.out Try.underlying29 rfl (by kernel_rfl) ?_)
    refine (alloc_any n w1 HH.out.shut HR.out HIN.out).mono ?_
    rintro e w2 ⟨v, rfl, ⟨z1, z2, z3, rfl, hp2⟩, hb2⟩
    obtain ⟨Ya, la, ca, Yb, lb, cb, Yc, lc, cc, rfl, rfl, rfl⟩ := hp2.forms_
    have hbb2 := hb2.alloc hb2.size (.cells #[.slice Ya la ca, .slice Yb lb cb, .slice Yc lc cc] 29)
    have HON := Lib.hid hp2.ones
    have HXR2 := Lib.hid (old_below HXR.out hbb2 (row_lt HXR.out))
    have HXO2 := Lib.hid (old_below HXO.out hbb2 (row_lt HXO.out))
    have HYH2 := Lib.hid (old_below HYH.out hbb2 (row_lt HYH.out))
    have HYR2 := Lib.hid (old_below HYR.out hbb2 (row_lt HYR.out))
    have HV2 := Lib.hid (HV.out.below hbb2)
    have HP2 := Lib.hid ((hp2.alloc (.cells #[.slice Ya la ca, .slice Yb lb cb, .slice Yc lc cc] 29)).wide (Nat.zero_le _))
    have HZ2 := Lib.hid (heap_alloc_new w2 (.cells #[.slice Ya la ca, .slice Yb lb cb, .slice Yc lc cc] 29))
    have HB2 := Lib.hid (HB1.out.trans (hbb2.mono HNS.out))
    have HRD2 := Lib.hid (HRD.out.below hbb2 HHI.out)
    have HP2N : Hid (N + 4 < w2.heap.size) := row_lt (old_below HYR.out hb2 (row_lt HYR.out))
    have HSZ2 : Hid (w1.heap.size ≤ (w2.alloc (.cells #[.slice Ya la ca, .slice Yb lb cb, .slice Yc lc cc] 29)).heap.size) := hbb2.size
    clear hp2 hb2 hbb2 f0 f1 f2 f3 f4
    go_upto_region 5 with (first | refine wpList_store_new rfl 29 _ _ rfl w2 #[.slice none 0 0, .slice none 0 0, .slice none 0 0] #[.slice Ya la ca, .slice Yb lb cb, .slice Yc lc cc] rfl rfl (by kernel_rfl) rfl HON.out ?_)
    generalize w2.alloc (.cells #[.slice Ya la ca, .slice Yb lb cb, .slice Yc lc cc] 29) = w3 at HXR2 HXO2 HYH2 HYR2 HV2 HP2 HZ2 HB2 HRD2 HSZ2 ⊢
    generalize w2.heap.size = P2 at HZ2 HP2N ⊢
    obtain ⟨f0, f1, f2, f3, f4⟩ := five_cells HXO2.out
    go_wp2_with (refine wpList_load_row rfl 35 _ rfl (N + 1) rfl 35 #[.string ⟨B.toArray⟩, .slice A4 nk c4, .slice A5 nd c5] (0, 0) _ HXR2.out Try.underlying35 rfl (by kernel_rfl) ?_)
    refine (refalloc_any n w3 HV2.out.shut HR.out HIN.out).mono ?_
    rintro e w4 ⟨v, rfl, ⟨y1, y2, y3, rfl, hp4⟩, hb4⟩
    have HON4 := Lib.hid hp4.ones
    obtain ⟨XS, Xb, kb, xb, Xc, kc, xc, rfl, rfl, rfl⟩ := hp4.forms_
    have hbb4 := hb4.alloc hb4.size (.cells #[.string XS, .slice Xb kb xb, .slice Xc kc xc] 35)
    have HYH5 := Lib.hid (old_below HYH2.out hbb4 (row_lt HYH2.out))
    have HYR5 := Lib.hid (old_below HYR2.out hbb4 (row_lt HYR2.out))
    have HP5 := Lib.hid (HP2.out.below hbb4)
    have HZ5 := Lib.hid (old_below HZ2.out hbb4 (row_lt HZ2.out))
    have HV5 := Lib.hid (hp4.alloc (.cells #[.string XS, .slice Xb kb xb, .slice Xc kc xc] 35))
    have HU5 := Lib.hid (heap_alloc_new w4 (.cells #[.string XS, .slice Xb kb xb, .slice Xc kc xc] 35))
    have HB5 := Lib.hid (HB2.out.trans (hbb4.mono (Nat.le_trans HNS.out HSZ2.out)))
    have HP4N : Hid (N + 4 < w4.heap.size) := row_lt (old_below HYR2.out hb4 (row_lt HYR2.out))
    clear hp4 hb4 hbb4 f0 f1 f2 f3 f4
    go_upto_region 6 with (first | refine wpList_store_new rfl 35 _ _ rfl w4 #[.string ⟨#[]⟩, .slice none 0 0, .slice none 0 0] #[.string XS, .slice Xb kb xb, .slice Xc kc xc] rfl rfl (by kernel_rfl) rfl HON4.out ?_)
    generalize w4.alloc (.cells #[.string XS, .slice Xb kb xb, .slice Xc kc xc] 35) = w5 at HYH5 HYR5 HP5 HZ5 HV5 HU5 HB5 ⊢
    generalize w4.heap.size = P4 at HU5 HP4N ⊢
    have HEND := Lib.hid (step_end HP5.out HV5.out HYH5.out HYR5.out HB5.out)
    obtain ⟨a0, a1, a2⟩ := three_cells HZ5.out
    obtain ⟨b0, b1, b2⟩ := three_cells HU5.out
    obtain ⟨p0, p1, p2⟩ := three_cells HYH5.out
    obtain ⟨q0, q1, q2⟩ := three_cells HYR5.out
    have g0 := frozen_of_row w5 (N + 3) 0 _ _ HYH5.out
    have g1 := frozen_of_row w5 (N + 3) 1 _ _ HYH5.out
    have g2 := frozen_of_row w5 (N + 3) 2 _ _ HYH5.out
    have k0 := frozen_of_row w5 (N + 4) 0 _ _ HYR5.out
    have k1 := frozen_of_row w5 (N + 4) 1 _ _ HYR5.out
    have k2 := frozen_of_row w5 (N + 4) 2 _ _ HYR5.out
    have d1 : ¬ N + 1 + 1 + 1 = P2 := by have := HP2N.out; omega
    have d2 : ¬ N + 1 + 1 + 1 = P4 := by have := HP4N.out; omega
    have d3 : ¬ N + 1 + 1 + 1 + 1 = P2 := by have := HP2N.out; omega
    have d4 : ¬ N + 1 + 1 + 1 + 1 = P4 := by have := HP4N.out; omega
    have d5 : ¬ P2 = N + 1 + 1 + 1 := by have := HP2N.out; omega
    have d6 : ¬ P4 = N + 1 + 1 + 1 := by have := HP4N.out; omega
    have d7 : ¬ P2 = N + 1 + 1 + 1 + 1 := by have := HP2N.out; omega
    have d8 : ¬ P4 = N + 1 + 1 + 1 + 1 := by have := HP4N.out; omega
    go_region
    all_goals first
      | (rw [row3 HYH5.out, row3 (w := w5.setRow (N + 3) _) ((setRow_other _ _ _ _ (by omega)).trans HYR5.out)]
         go_wp2
         refine ret_cct (g := N + 3) (g2 := N + 4) rfl rfl rfl (t := 29) (t2 := 35) (fr := (0, 0)) (fr2 := (0, 0)) HEND.out.1.1 Try.underlying29 rfl (by kernel_rfl) HEND.out.1.2.1 Try.underlying35 rfl (by kernel_rfl) rfl ?_
         rw [HSO.out]
         exact ⟨_, _, rfl, HEND.out.1.2.2.1.below (below_drewN' (Below.refl _ _) 1), HEND.out.1.2.2.2.1.below (below_drewN' (Below.refl _ _) 1), below_drewN' HEND.out.1.2.2.2.2 1⟩)
      | (rw [row3 HYR5.out, row3 (w := w5.setRow (N + 4) _) ((setRow_other _ _ _ _ (by omega)).trans HYH5.out)]
         go_wp2
         refine ret_cct (g := N + 3) (g2 := N + 4) rfl rfl rfl (t := 29) (t2 := 35) (fr := (0, 0)) (fr2 := (0, 0)) HEND.out.2.1 Try.underlying29 rfl (by kernel_rfl) HEND.out.2.2.1 Try.underlying35 rfl (by kernel_rfl) rfl ?_
         rw [HSO.out]
         exact ⟨_, _, rfl, HEND.out.2.2.2.1.below (below_drewN' (Below.refl _ _) 1), HEND.out.2.2.2.2.1.below (below_drewN' (Below.refl _ _) 1), below_drewN' HEND.out.2.2.2.2.2 1⟩)
  · have HSO : Hid (stepO 1 x n d sh (B, L, D) = (B, (allocO B.length L n).1, D)) := rfl
    go_wp2_with (refine wpList_load_row rfl 29 _ rfl N rfl 29 #[.slice A1 nb c1, .slice A2 nk c2, .slice A3 nd c3] (0, 0) _ HX.out Try.underlying29 rfl (by kernel_rfl) ?_)
    refine (alloc_any n w1 HH.out.shut HR.out HIN.out).mono ?_
    rintro e w2 ⟨v, rfl, ⟨z1, z2, z3, rfl, hp2⟩, hb2⟩
    obtain ⟨Ya, la, ca, Yb, lb, cb, Yc, lc, cc, rfl, rfl, rfl⟩ := hp2.forms_
    have hbb2 := hb2.alloc hb2.size (.cells #[.slice Ya la ca, .slice Yb lb cb, .slice Yc lc cc] 29)
    have HON := Lib.hid hp2.ones
    have HXR2 := Lib.hid (old_below HXR.out hbb2 (row_lt HXR.out))
    have HXO2 := Lib.hid (old_below HXO.out hbb2 (row_lt HXO.out))
    have HYH2 := Lib.hid (old_below HYH.out hbb2 (row_lt HYH.out))
    have HYR2 := Lib.hid (old_below HYR.out hbb2 (row_lt HYR.out))
    have HV2 := Lib.hid (HV.out.below hbb2)
    have HP2 := Lib.hid ((hp2.alloc (.cells #[.slice Ya la ca, .slice Yb lb cb, .slice Yc lc cc] 29)).wide (Nat.zero_le _))
    have HZ2 := Lib.hid (heap_alloc_new w2 (.cells #[.slice Ya la ca, .slice Yb lb cb, .slice Yc lc cc] 29))
    have HB2 := Lib.hid (HB1.out.trans (hbb2.mono HNS.out))
    have HRD2 := Lib.hid (HRD.out.below hbb2 HHI.out)
    have HP2N : Hid (N + 4 < w2.heap.size) := row_lt (old_below HYR.out hb2 (row_lt HYR.out))
    have HSZ2 : Hid (w1.heap.size ≤ (w2.alloc (.cells #[.slice Ya la ca, .slice Yb lb cb, .slice Yc lc cc] 29)).heap.size) := hbb2.size
    clear hp2 hb2 hbb2 f0 f1 f2 f3 f4
    go_upto_region 5 with (first | refine wpList_store_new rfl 29 _ _ rfl w2 #[.slice none 0 0, .slice none 0 0, .slice none 0 0] #[.slice Ya la ca, .slice Yb lb cb, .slice Yc lc cc] rfl rfl (by kernel_rfl) rfl HON.out ?_)
    generalize w2.alloc (.cells #[.slice Ya la ca, .slice Yb lb cb, .slice Yc lc cc] 29) = w3 at HXR2 HXO2 HYH2 HYR2 HV2 HP2 HZ2 HB2 HRD2 HSZ2 ⊢
    generalize w2.heap.size = P2 at HZ2 HP2N ⊢
    obtain ⟨f0, f1, f2, f3, f4⟩ := five_cells HXO2.out
    go_wp2_with (refine wpList_load_row rfl 35 _ rfl (N + 1) rfl 35 #[.string ⟨B.toArray⟩, .slice A4 nk c4, .slice A5 nd c5] (0, 0) _ HXR2.out Try.underlying35 rfl (by kernel_rfl) ?_)
    refine (refalloc_any n w3 HV2.out.shut HR.out HIN.out).mono ?_
    rintro e w4 ⟨v, rfl, ⟨y1, y2, y3, rfl, hp4⟩, hb4⟩
    have HON4 := Lib.hid hp4.ones
    obtain ⟨XS, Xb, kb, xb, Xc, kc, xc, rfl, rfl, rfl⟩ := hp4.forms_
    have hbb4 := hb4.alloc hb4.size (.cells #[.string XS, .slice Xb kb xb, .slice Xc kc xc] 35)
    have HYH5 := Lib.hid (old_below HYH2.out hbb4 (row_lt HYH2.out))
    have HYR5 := Lib.hid (old_below HYR2.out hbb4 (row_lt HYR2.out))
    have HP5 := Lib.hid (HP2.out.below hbb4)
    have HZ5 := Lib.hid (old_below HZ2.out hbb4 (row_lt HZ2.out))
    have HV5 := Lib.hid (hp4.alloc (.cells #[.string XS, .slice Xb kb xb, .slice Xc kc xc] 35))
    have HU5 := Lib.hid (heap_alloc_new w4 (.cells #[.string XS, .slice Xb kb xb, .slice Xc kc xc] 35))
    have HB5 := Lib.hid (HB2.out.trans (hbb4.mono (Nat.le_trans HNS.out HSZ2.out)))
    have HP4N : Hid (N + 4 < w4.heap.size) := row_lt (old_below HYR2.out hb4 (row_lt HYR2.out))
    clear hp4 hb4 hbb4 f0 f1 f2 f3 f4
    go_upto_region 6 with (first | refine wpList_store_new rfl 35 _ _ rfl w4 #[.string ⟨#[]⟩, .slice none 0 0, .slice none 0 0] #[.string XS, .slice Xb kb xb, .slice Xc kc xc] rfl rfl (by kernel_rfl) rfl HON4.out ?_)
    generalize w4.alloc (.cells #[.string XS, .slice Xb kb xb, .slice Xc kc xc] 35) = w5 at HYH5 HYR5 HP5 HZ5 HV5 HU5 HB5 ⊢
    generalize w4.heap.size = P4 at HU5 HP4N ⊢
    have HEND := Lib.hid (step_end HP5.out HV5.out HYH5.out HYR5.out HB5.out)
    obtain ⟨a0, a1, a2⟩ := three_cells HZ5.out
    obtain ⟨b0, b1, b2⟩ := three_cells HU5.out
    obtain ⟨p0, p1, p2⟩ := three_cells HYH5.out
    obtain ⟨q0, q1, q2⟩ := three_cells HYR5.out
    have g0 := frozen_of_row w5 (N + 3) 0 _ _ HYH5.out
    have g1 := frozen_of_row w5 (N + 3) 1 _ _ HYH5.out
    have g2 := frozen_of_row w5 (N + 3) 2 _ _ HYH5.out
    have k0 := frozen_of_row w5 (N + 4) 0 _ _ HYR5.out
    have k1 := frozen_of_row w5 (N + 4) 1 _ _ HYR5.out
    have k2 := frozen_of_row w5 (N + 4) 2 _ _ HYR5.out
    have d1 : ¬ N + 1 + 1 + 1 = P2 := by have := HP2N.out; omega
    have d2 : ¬ N + 1 + 1 + 1 = P4 := by have := HP4N.out; omega
    have d3 : ¬ N + 1 + 1 + 1 + 1 = P2 := by have := HP2N.out; omega
    have d4 : ¬ N + 1 + 1 + 1 + 1 = P4 := by have := HP4N.out; omega
    have d5 : ¬ P2 = N + 1 + 1 + 1 := by have := HP2N.out; omega
    have d6 : ¬ P4 = N + 1 + 1 + 1 := by have := HP4N.out; omega
    have d7 : ¬ P2 = N + 1 + 1 + 1 + 1 := by have := HP2N.out; omega
    have d8 : ¬ P4 = N + 1 + 1 + 1 + 1 := by have := HP4N.out; omega
    go_region
    all_goals first
      | (rw [row3 HYH5.out, row3 (w := w5.setRow (N + 3) _) ((setRow_other _ _ _ _ (by omega)).trans HYR5.out)]
         go_wp2
         refine ret_cct (g := N + 3) (g2 := N + 4) rfl rfl rfl (t := 29) (t2 := 35) (fr := (0, 0)) (fr2 := (0, 0)) HEND.out.1.1 Try.underlying29 rfl (by kernel_rfl) HEND.out.1.2.1 Try.underlying35 rfl (by kernel_rfl) rfl ?_
         rw [HSO.out]
         exact ⟨_, _, rfl, HEND.out.1.2.2.1.below (below_drewN' (Below.refl _ _) 1), HEND.out.1.2.2.2.1.below (below_drewN' (Below.refl _ _) 1), below_drewN' HEND.out.1.2.2.2.2 1⟩)
      | (rw [row3 HYR5.out, row3 (w := w5.setRow (N + 4) _) ((setRow_other _ _ _ _ (by omega)).trans HYH5.out)]
         go_wp2
         refine ret_cct (g := N + 3) (g2 := N + 4) rfl rfl rfl (t := 29) (t2 := 35) (fr := (0, 0)) (fr2 := (0, 0)) HEND.out.2.1 Try.underlying29 rfl (by kernel_rfl) HEND.out.2.2.1 Try.underlying35 rfl (by kernel_rfl) rfl ?_
         rw [HSO.out]
         exact ⟨_, _, rfl, HEND.out.2.2.2.1.below (below_drewN' (Below.refl _ _) 1), HEND.out.2.2.2.2.1.below (below_drewN' (Below.refl _ _) 1), below_drewN' HEND.out.2.2.2.2.2 1⟩)
  · have HSO : Hid (stepO 2 x n d sh (B, L, D) = ((freeO B L D x).1, (freeO B L D x).2.1, (freeO B L D x).2.2.1)) := rfl
    go_wp2_with (refine wpList_load_row rfl 29 _ rfl N rfl 29 #[.slice A1 nb c1, .slice A2 nk c2, .slice A3 nd c3] (0, 0) _ HX.out Try.underlying29 rfl (by kernel_rfl) ?_)
    refine (free_any x w1 HH.out.shut HR.out HIX.out).mono ?_
    rintro e w2 ⟨v, rfl, ⟨z1, z2, z3, rfl, hp2⟩, hb2⟩
    obtain ⟨Ya, la, ca, Yb, lb, cb, Yc, lc, cc, rfl, rfl, rfl⟩ := hp2.forms_
    have hbb2 := hb2.alloc hb2.size (.cells #[.slice Ya la ca, .slice Yb lb cb, .slice Yc lc cc] 29)
    have HON := Lib.hid hp2.ones
    have HXR2 := Lib.hid (old_below HXR.out hbb2 (row_lt HXR.out))
    have HXO2 := Lib.hid (old_below HXO.out hbb2 (row_lt HXO.out))
    have HYH2 := Lib.hid (old_below HYH.out hbb2 (row_lt HYH.out))
    have HYR2 := Lib.hid (old_below HYR.out hbb2 (row_lt HYR.out))
    have HV2 := Lib.hid (HV.out.below hbb2)
    have HP2 := Lib.hid ((hp2.alloc (.cells #[.slice Ya la ca, .slice Yb lb cb, .slice Yc lc cc] 29)).wide (Nat.zero_le _))
    have HZ2 := Lib.hid (heap_alloc_new w2 (.cells #[.slice Ya la ca, .slice Yb lb cb, .slice Yc lc cc] 29))
    have HB2 := Lib.hid (HB1.out.trans (hbb2.mono HNS.out))
    have HRD2 := Lib.hid (HRD.out.below hbb2 HHI.out)
    have HP2N : Hid (N + 4 < w2.heap.size) := row_lt (old_below HYR.out hb2 (row_lt HYR.out))
    have HSZ2 : Hid (w1.heap.size ≤ (w2.alloc (.cells #[.slice Ya la ca, .slice Yb lb cb, .slice Yc lc cc] 29)).heap.size) := hbb2.size
    clear hp2 hb2 hbb2 f0 f1 f2 f3 f4
    go_upto_region 9 with (first | refine wpList_store_new rfl 29 _ _ rfl w2 #[.slice none 0 0, .slice none 0 0, .slice none 0 0] #[.slice Ya la ca, .slice Yb lb cb, .slice Yc lc cc] rfl rfl (by kernel_rfl) rfl HON.out ?_)
    generalize w2.alloc (.cells #[.slice Ya la ca, .slice Yb lb cb, .slice Yc lc cc] 29) = w3 at HXR2 HXO2 HYH2 HYR2 HV2 HP2 HZ2 HB2 HRD2 HSZ2 ⊢
    generalize w2.heap.size = P2 at HZ2 HP2N ⊢
    obtain ⟨f0, f1, f2, f3, f4⟩ := five_cells HXO2.out
    go_wp2_with (refine wpList_load_row rfl 35 _ rfl (N + 1) rfl 35 #[.string ⟨B.toArray⟩, .slice A4 nk c4, .slice A5 nd c5] (0, 0) _ HXR2.out Try.underlying35 rfl (by kernel_rfl) ?_)
    refine (reffree_any x w3 HV2.out.shut HR.out HIX.out).mono ?_
    rintro e w4 ⟨v, rfl, ⟨y1, y2, y3, rfl, hp4⟩, hb4⟩
    have HON4 := Lib.hid hp4.ones
    obtain ⟨XS, Xb, kb, xb, Xc, kc, xc, rfl, rfl, rfl⟩ := hp4.forms_
    have hbb4 := hb4.alloc hb4.size (.cells #[.string XS, .slice Xb kb xb, .slice Xc kc xc] 35)
    have HYH5 := Lib.hid (old_below HYH2.out hbb4 (row_lt HYH2.out))
    have HYR5 := Lib.hid (old_below HYR2.out hbb4 (row_lt HYR2.out))
    have HP5 := Lib.hid (HP2.out.below hbb4)
    have HZ5 := Lib.hid (old_below HZ2.out hbb4 (row_lt HZ2.out))
    have HV5 := Lib.hid (hp4.alloc (.cells #[.string XS, .slice Xb kb xb, .slice Xc kc xc] 35))
    have HU5 := Lib.hid (heap_alloc_new w4 (.cells #[.string XS, .slice Xb kb xb, .slice Xc kc xc] 35))
    have HB5 := Lib.hid (HB2.out.trans (hbb4.mono (Nat.le_trans HNS.out HSZ2.out)))
    have HP4N : Hid (N + 4 < w4.heap.size) := row_lt (old_below HYR2.out hb4 (row_lt HYR2.out))
    clear hp4 hb4 hbb4 f0 f1 f2 f3 f4
    go_upto_region 10 with (first | refine wpList_store_new rfl 35 _ _ rfl w4 #[.string ⟨#[]⟩, .slice none 0 0, .slice none 0 0] #[.string XS, .slice Xb kb xb, .slice Xc kc xc] rfl rfl (by kernel_rfl) rfl HON4.out ?_)
    generalize w4.alloc (.cells #[.string XS, .slice Xb kb xb, .slice Xc kc xc] 35) = w5 at HYH5 HYR5 HP5 HZ5 HV5 HU5 HB5 ⊢
    generalize w4.heap.size = P4 at HU5 HP4N ⊢
    have HEND := Lib.hid (step_end HP5.out HV5.out HYH5.out HYR5.out HB5.out)
    obtain ⟨a0, a1, a2⟩ := three_cells HZ5.out
    obtain ⟨b0, b1, b2⟩ := three_cells HU5.out
    obtain ⟨p0, p1, p2⟩ := three_cells HYH5.out
    obtain ⟨q0, q1, q2⟩ := three_cells HYR5.out
    have g0 := frozen_of_row w5 (N + 3) 0 _ _ HYH5.out
    have g1 := frozen_of_row w5 (N + 3) 1 _ _ HYH5.out
    have g2 := frozen_of_row w5 (N + 3) 2 _ _ HYH5.out
    have k0 := frozen_of_row w5 (N + 4) 0 _ _ HYR5.out
    have k1 := frozen_of_row w5 (N + 4) 1 _ _ HYR5.out
    have k2 := frozen_of_row w5 (N + 4) 2 _ _ HYR5.out
    have d1 : ¬ N + 1 + 1 + 1 = P2 := by have := HP2N.out; omega
    have d2 : ¬ N + 1 + 1 + 1 = P4 := by have := HP4N.out; omega
    have d3 : ¬ N + 1 + 1 + 1 + 1 = P2 := by have := HP2N.out; omega
    have d4 : ¬ N + 1 + 1 + 1 + 1 = P4 := by have := HP4N.out; omega
    have d5 : ¬ P2 = N + 1 + 1 + 1 := by have := HP2N.out; omega
    have d6 : ¬ P4 = N + 1 + 1 + 1 := by have := HP4N.out; omega
    have d7 : ¬ P2 = N + 1 + 1 + 1 + 1 := by have := HP2N.out; omega
    have d8 : ¬ P4 = N + 1 + 1 + 1 + 1 := by have := HP4N.out; omega
    go_region
    all_goals first
      | (rw [row3 HYH5.out, row3 (w := w5.setRow (N + 3) _) ((setRow_other _ _ _ _ (by omega)).trans HYR5.out)]
         go_wp2
         refine ret_cct (g := N + 3) (g2 := N + 4) rfl rfl rfl (t := 29) (t2 := 35) (fr := (0, 0)) (fr2 := (0, 0)) HEND.out.1.1 Try.underlying29 rfl (by kernel_rfl) HEND.out.1.2.1 Try.underlying35 rfl (by kernel_rfl) rfl ?_
         rw [HSO.out]
         exact ⟨_, _, rfl, HEND.out.1.2.2.1.below (below_drewN' (Below.refl _ _) 1), HEND.out.1.2.2.2.1.below (below_drewN' (Below.refl _ _) 1), below_drewN' HEND.out.1.2.2.2.2 1⟩)
      | (rw [row3 HYR5.out, row3 (w := w5.setRow (N + 4) _) ((setRow_other _ _ _ _ (by omega)).trans HYH5.out)]
         go_wp2
         refine ret_cct (g := N + 3) (g2 := N + 4) rfl rfl rfl (t := 29) (t2 := 35) (fr := (0, 0)) (fr2 := (0, 0)) HEND.out.2.1 Try.underlying29 rfl (by kernel_rfl) HEND.out.2.2.1 Try.underlying35 rfl (by kernel_rfl) rfl ?_
         rw [HSO.out]
         exact ⟨_, _, rfl, HEND.out.2.2.2.1.below (below_drewN' (Below.refl _ _) 1), HEND.out.2.2.2.2.1.below (below_drewN' (Below.refl _ _) 1), below_drewN' HEND.out.2.2.2.2.2 1⟩)
  · have HSO : Hid (stepO 3 x n d sh (B, L, D) = ((storeO B L D x d).1, L, (storeO B L D x d).2.1)) := rfl
    go_wp2_with (refine wpList_load_row rfl 29 _ rfl N rfl 29 #[.slice A1 nb c1, .slice A2 nk c2, .slice A3 nd c3] (0, 0) _ HX.out Try.underlying29 rfl (by kernel_rfl) ?_)
    refine (store_any x A c m 0 hi d w1 HH.out.shut HR.out HIX.out HDM.out (by omega) HAN.out HRD.out HHI.out).mono ?_
    rintro e w2 ⟨v, rfl, ⟨z1, z2, z3, rfl, hp2⟩, hb2⟩
    obtain ⟨Ya, la, ca, Yb, lb, cb, Yc, lc, cc, rfl, rfl, rfl⟩ := hp2.forms_
    have hbb2 := hb2.alloc hb2.size (.cells #[.slice Ya la ca, .slice Yb lb cb, .slice Yc lc cc] 29)
    have HON := Lib.hid hp2.ones
    have HXR2 := Lib.hid (old_below HXR.out hbb2 (row_lt HXR.out))
    have HXO2 := Lib.hid (old_below HXO.out hbb2 (row_lt HXO.out))
    have HYH2 := Lib.hid (old_below HYH.out hbb2 (row_lt HYH.out))
    have HYR2 := Lib.hid (old_below HYR.out hbb2 (row_lt HYR.out))
    have HV2 := Lib.hid (HV.out.below hbb2)
    have HP2 := Lib.hid ((hp2.alloc (.cells #[.slice Ya la ca, .slice Yb lb cb, .slice Yc lc cc] 29)).wide (Nat.zero_le _))
    have HZ2 := Lib.hid (heap_alloc_new w2 (.cells #[.slice Ya la ca, .slice Yb lb cb, .slice Yc lc cc] 29))
    have HB2 := Lib.hid (HB1.out.trans (hbb2.mono HNS.out))
    have HRD2 := Lib.hid (HRD.out.below hbb2 HHI.out)
    have HP2N : Hid (N + 4 < w2.heap.size) := row_lt (old_below HYR.out hb2 (row_lt HYR.out))
    have HSZ2 : Hid (w1.heap.size ≤ (w2.alloc (.cells #[.slice Ya la ca, .slice Yb lb cb, .slice Yc lc cc] 29)).heap.size) := hbb2.size
    clear hp2 hb2 hbb2 f0 f1 f2 f3 f4
    go_upto_region 14 with (first | refine wpList_store_new rfl 29 _ _ rfl w2 #[.slice none 0 0, .slice none 0 0, .slice none 0 0] #[.slice Ya la ca, .slice Yb lb cb, .slice Yc lc cc] rfl rfl (by kernel_rfl) rfl HON.out ?_)
    generalize w2.alloc (.cells #[.slice Ya la ca, .slice Yb lb cb, .slice Yc lc cc] 29) = w3 at HXR2 HXO2 HYH2 HYR2 HV2 HP2 HZ2 HB2 HRD2 HSZ2 ⊢
    generalize w2.heap.size = P2 at HZ2 HP2N ⊢
    obtain ⟨f0, f1, f2, f3, f4⟩ := five_cells HXO2.out
    have hcv : (convert 25 9 (.slice A m c)).run Try.prog w3 = .ok (.string ⟨d.toArray⟩) w3 := by
      have := run_text (P := Try.prog) w3 25 9 5 (l := d) c Try.underlying25 Try.underlying5 Try.underlying9 HRD2.out
      rwa [HDM.out] at this
    go_wp2_with (refine wpList_load_row rfl 35 _ rfl (N + 1) rfl 35 #[.string ⟨B.toArray⟩, .slice A4 nk c4, .slice A5 nd c5] (0, 0) _ HXR2.out Try.underlying35 rfl (by kernel_rfl) ?_)
    refine (refstore_any x d w3 HV2.out.shut HR.out HIX.out (by rw [HDM.out]; omega)).mono ?_
    rintro e w4 ⟨v, rfl, ⟨y1, y2, y3, rfl, hp4⟩, hb4⟩
    have HON4 := Lib.hid hp4.ones
    obtain ⟨XS, Xb, kb, xb, Xc, kc, xc, rfl, rfl, rfl⟩ := hp4.forms_
    have hbb4 := hb4.alloc hb4.size (.cells #[.string XS, .slice Xb kb xb, .slice Xc kc xc] 35)
    have HYH5 := Lib.hid (old_below HYH2.out hbb4 (row_lt HYH2.out))
    have HYR5 := Lib.hid (old_below HYR2.out hbb4 (row_lt HYR2.out))
    have HP5 := Lib.hid (HP2.out.below hbb4)
    have HZ5 := Lib.hid (old_below HZ2.out hbb4 (row_lt HZ2.out))
    have HV5 := Lib.hid (hp4.alloc (.cells #[.string XS, .slice Xb kb xb, .slice Xc kc xc] 35))
    have HU5 := Lib.hid (heap_alloc_new w4 (.cells #[.string XS, .slice Xb kb xb, .slice Xc kc xc] 35))
    have HB5 := Lib.hid (HB2.out.trans (hbb4.mono (Nat.le_trans HNS.out HSZ2.out)))
    have HP4N : Hid (N + 4 < w4.heap.size) := row_lt (old_below HYR2.out hb4 (row_lt HYR2.out))
    clear hp4 hb4 hbb4 hcv f0 f1 f2 f3 f4
    go_upto_region 15 with (first | refine wpList_store_new rfl 35 _ _ rfl w4 #[.string ⟨#[]⟩, .slice none 0 0, .slice none 0 0] #[.string XS, .slice Xb kb xb, .slice Xc kc xc] rfl rfl (by kernel_rfl) rfl HON4.out ?_)
    generalize w4.alloc (.cells #[.string XS, .slice Xb kb xb, .slice Xc kc xc] 35) = w5 at HYH5 HYR5 HP5 HZ5 HV5 HU5 HB5 ⊢
    generalize w4.heap.size = P4 at HU5 HP4N ⊢
    have HEND := Lib.hid (step_end HP5.out HV5.out HYH5.out HYR5.out HB5.out)
    obtain ⟨a0, a1, a2⟩ := three_cells HZ5.out
    obtain ⟨b0, b1, b2⟩ := three_cells HU5.out
    obtain ⟨p0, p1, p2⟩ := three_cells HYH5.out
    obtain ⟨q0, q1, q2⟩ := three_cells HYR5.out
    have g0 := frozen_of_row w5 (N + 3) 0 _ _ HYH5.out
    have g1 := frozen_of_row w5 (N + 3) 1 _ _ HYH5.out
    have g2 := frozen_of_row w5 (N + 3) 2 _ _ HYH5.out
    have k0 := frozen_of_row w5 (N + 4) 0 _ _ HYR5.out
    have k1 := frozen_of_row w5 (N + 4) 1 _ _ HYR5.out
    have k2 := frozen_of_row w5 (N + 4) 2 _ _ HYR5.out
    have d1 : ¬ N + 1 + 1 + 1 = P2 := by have := HP2N.out; omega
    have d2 : ¬ N + 1 + 1 + 1 = P4 := by have := HP4N.out; omega
    have d3 : ¬ N + 1 + 1 + 1 + 1 = P2 := by have := HP2N.out; omega
    have d4 : ¬ N + 1 + 1 + 1 + 1 = P4 := by have := HP4N.out; omega
    have d5 : ¬ P2 = N + 1 + 1 + 1 := by have := HP2N.out; omega
    have d6 : ¬ P4 = N + 1 + 1 + 1 := by have := HP4N.out; omega
    have d7 : ¬ P2 = N + 1 + 1 + 1 + 1 := by have := HP2N.out; omega
    have d8 : ¬ P4 = N + 1 + 1 + 1 + 1 := by have := HP4N.out; omega
    go_region
    all_goals first
      | (rw [row3 HYH5.out, row3 (w := w5.setRow (N + 3) _) ((setRow_other _ _ _ _ (by omega)).trans HYR5.out)]
         go_wp2
         refine ret_cct (g := N + 3) (g2 := N + 4) rfl rfl rfl (t := 29) (t2 := 35) (fr := (0, 0)) (fr2 := (0, 0)) HEND.out.1.1 Try.underlying29 rfl (by kernel_rfl) HEND.out.1.2.1 Try.underlying35 rfl (by kernel_rfl) rfl ?_
         rw [HSO.out]
         exact ⟨_, _, rfl, HEND.out.1.2.2.1.below (below_drewN' (Below.refl _ _) 1), HEND.out.1.2.2.2.1.below (below_drewN' (Below.refl _ _) 1), below_drewN' HEND.out.1.2.2.2.2 1⟩)
      | (rw [row3 HYR5.out, row3 (w := w5.setRow (N + 4) _) ((setRow_other _ _ _ _ (by omega)).trans HYH5.out)]
         go_wp2
         refine ret_cct (g := N + 3) (g2 := N + 4) rfl rfl rfl (t := 29) (t2 := 35) (fr := (0, 0)) (fr2 := (0, 0)) HEND.out.2.1 Try.underlying29 rfl (by kernel_rfl) HEND.out.2.2.1 Try.underlying35 rfl (by kernel_rfl) rfl ?_
         rw [HSO.out]
         exact ⟨_, _, rfl, HEND.out.2.2.2.1.below (below_drewN' (Below.refl _ _) 1), HEND.out.2.2.2.2.1.below (below_drewN' (Below.refl _ _) 1), below_drewN' HEND.out.2.2.2.2.2 1⟩)
  · have HSO : Hid (stepO 4 x n d sh (B, L, D) = ((storeO B L D x d).1, L, (storeO B L D x d).2.1)) := rfl
    go_wp2_with (refine wpList_load_row rfl 29 _ rfl N rfl 29 #[.slice A1 nb c1, .slice A2 nk c2, .slice A3 nd c3] (0, 0) _ HX.out Try.underlying29 rfl (by kernel_rfl) ?_)
    refine (store_any x A c m 0 hi d w1 HH.out.shut HR.out HIX.out HDM.out (by omega) HAN.out HRD.out HHI.out).mono ?_
    rintro e w2 ⟨v, rfl, ⟨z1, z2, z3, rfl, hp2⟩, hb2⟩
    obtain ⟨Ya, la, ca, Yb, lb, cb, Yc, lc, cc, rfl, rfl, rfl⟩ := hp2.forms_
    have hbb2 := hb2.alloc hb2.size (.cells #[.slice Ya la ca, .slice Yb lb cb, .slice Yc lc cc] 29)
    have HON := Lib.hid hp2.ones
    have HXR2 := Lib.hid (old_below HXR.out hbb2 (row_lt HXR.out))
    have HXO2 := Lib.hid (old_below HXO.out hbb2 (row_lt HXO.out))
    have HYH2 := Lib.hid (old_below HYH.out hbb2 (row_lt HYH.out))
    have HYR2 := Lib.hid (old_below HYR.out hbb2 (row_lt HYR.out))
    have HV2 := Lib.hid (HV.out.below hbb2)
    have HP2 := Lib.hid ((hp2.alloc (.cells #[.slice Ya la ca, .slice Yb lb cb, .slice Yc lc cc] 29)).wide (Nat.zero_le _))
    have HZ2 := Lib.hid (heap_alloc_new w2 (.cells #[.slice Ya la ca, .slice Yb lb cb, .slice Yc lc cc] 29))
    have HB2 := Lib.hid (HB1.out.trans (hbb2.mono HNS.out))
    have HRD2 := Lib.hid (HRD.out.below hbb2 HHI.out)
    have HP2N : Hid (N + 4 < w2.heap.size) := row_lt (old_below HYR.out hb2 (row_lt HYR.out))
    have HSZ2 : Hid (w1.heap.size ≤ (w2.alloc (.cells #[.slice Ya la ca, .slice Yb lb cb, .slice Yc lc cc] 29)).heap.size) := hbb2.size
    clear hp2 hb2 hbb2 f0 f1 f2 f3 f4
    go_upto_region 14 with (first | refine wpList_store_new rfl 29 _ _ rfl w2 #[.slice none 0 0, .slice none 0 0, .slice none 0 0] #[.slice Ya la ca, .slice Yb lb cb, .slice Yc lc cc] rfl rfl (by kernel_rfl) rfl HON.out ?_)
    generalize w2.alloc (.cells #[.slice Ya la ca, .slice Yb lb cb, .slice Yc lc cc] 29) = w3 at HXR2 HXO2 HYH2 HYR2 HV2 HP2 HZ2 HB2 HRD2 HSZ2 ⊢
    generalize w2.heap.size = P2 at HZ2 HP2N ⊢
    obtain ⟨f0, f1, f2, f3, f4⟩ := five_cells HXO2.out
    have hcv : (convert 25 9 (.slice A m c)).run Try.prog w3 = .ok (.string ⟨d.toArray⟩) w3 := by
      have := run_text (P := Try.prog) w3 25 9 5 (l := d) c Try.underlying25 Try.underlying5 Try.underlying9 HRD2.out
      rwa [HDM.out] at this
    go_wp2_with (refine wpList_load_row rfl 35 _ rfl (N + 1) rfl 35 #[.string ⟨B.toArray⟩, .slice A4 nk c4, .slice A5 nd c5] (0, 0) _ HXR2.out Try.underlying35 rfl (by kernel_rfl) ?_)
    refine (refstore_any x d w3 HV2.out.shut HR.out HIX.out (by rw [HDM.out]; omega)).mono ?_
    rintro e w4 ⟨v, rfl, ⟨y1, y2, y3, rfl, hp4⟩, hb4⟩
    have HON4 := Lib.hid hp4.ones
    obtain ⟨XS, Xb, kb, xb, Xc, kc, xc, rfl, rfl, rfl⟩ := hp4.forms_
    have hbb4 := hb4.alloc hb4.size (.cells #[.string XS, .slice Xb kb xb, .slice Xc kc xc] 35)
    have HYH5 := Lib.hid (old_below HYH2.out hbb4 (row_lt HYH2.out))
    have HYR5 := Lib.hid (old_below HYR2.out hbb4 (row_lt HYR2.out))
    have HP5 := Lib.hid (HP2.out.below hbb4)
    have HZ5 := Lib.hid (old_below HZ2.out hbb4 (row_lt HZ2.out))
    have HV5 := Lib.hid (hp4.alloc (.cells #[.string XS, .slice Xb kb xb, .slice Xc kc xc] 35))
    have HU5 := Lib.hid (heap_alloc_new w4 (.cells #[.string XS, .slice Xb kb xb, .slice Xc kc xc] 35))
    have HB5 := Lib.hid (HB2.out.trans (hbb4.mono (Nat.le_trans HNS.out HSZ2.out)))
    have HP4N : Hid (N + 4 < w4.heap.size) := row_lt (old_below HYR2.out hb4 (row_lt HYR2.out))
    clear hp4 hb4 hbb4 hcv f0 f1 f2 f3 f4
    go_upto_region 15 with (first | refine wpList_store_new rfl 35 _ _ rfl w4 #[.string ⟨#[]⟩, .slice none 0 0, .slice none 0 0] #[.string XS, .slice Xb kb xb, .slice Xc kc xc] rfl rfl (by kernel_rfl) rfl HON4.out ?_)
    generalize w4.alloc (.cells #[.string XS, .slice Xb kb xb, .slice Xc kc xc] 35) = w5 at HYH5 HYR5 HP5 HZ5 HV5 HU5 HB5 ⊢
    generalize w4.heap.size = P4 at HU5 HP4N ⊢
    have HEND := Lib.hid (step_end HP5.out HV5.out HYH5.out HYR5.out HB5.out)
    obtain ⟨a0, a1, a2⟩ := three_cells HZ5.out
    obtain ⟨b0, b1, b2⟩ := three_cells HU5.out
    obtain ⟨p0, p1, p2⟩ := three_cells HYH5.out
    obtain ⟨q0, q1, q2⟩ := three_cells HYR5.out
    have g0 := frozen_of_row w5 (N + 3) 0 _ _ HYH5.out
    have g1 := frozen_of_row w5 (N + 3) 1 _ _ HYH5.out
    have g2 := frozen_of_row w5 (N + 3) 2 _ _ HYH5.out
    have k0 := frozen_of_row w5 (N + 4) 0 _ _ HYR5.out
    have k1 := frozen_of_row w5 (N + 4) 1 _ _ HYR5.out
    have k2 := frozen_of_row w5 (N + 4) 2 _ _ HYR5.out
    have d1 : ¬ N + 1 + 1 + 1 = P2 := by have := HP2N.out; omega
    have d2 : ¬ N + 1 + 1 + 1 = P4 := by have := HP4N.out; omega
    have d3 : ¬ N + 1 + 1 + 1 + 1 = P2 := by have := HP2N.out; omega
    have d4 : ¬ N + 1 + 1 + 1 + 1 = P4 := by have := HP4N.out; omega
    have d5 : ¬ P2 = N + 1 + 1 + 1 := by have := HP2N.out; omega
    have d6 : ¬ P4 = N + 1 + 1 + 1 := by have := HP4N.out; omega
    have d7 : ¬ P2 = N + 1 + 1 + 1 + 1 := by have := HP2N.out; omega
    have d8 : ¬ P4 = N + 1 + 1 + 1 + 1 := by have := HP4N.out; omega
    go_region
    all_goals first
      | (rw [row3 HYH5.out, row3 (w := w5.setRow (N + 3) _) ((setRow_other _ _ _ _ (by omega)).trans HYR5.out)]
         go_wp2
         refine ret_cct (g := N + 3) (g2 := N + 4) rfl rfl rfl (t := 29) (t2 := 35) (fr := (0, 0)) (fr2 := (0, 0)) HEND.out.1.1 Try.underlying29 rfl (by kernel_rfl) HEND.out.1.2.1 Try.underlying35 rfl (by kernel_rfl) rfl ?_
         rw [HSO.out]
         exact ⟨_, _, rfl, HEND.out.1.2.2.1.below (below_drewN' (Below.refl _ _) 1), HEND.out.1.2.2.2.1.below (below_drewN' (Below.refl _ _) 1), below_drewN' HEND.out.1.2.2.2.2 1⟩)
      | (rw [row3 HYR5.out, row3 (w := w5.setRow (N + 4) _) ((setRow_other _ _ _ _ (by omega)).trans HYH5.out)]
         go_wp2
         refine ret_cct (g := N + 3) (g2 := N + 4) rfl rfl rfl (t := 29) (t2 := 35) (fr := (0, 0)) (fr2 := (0, 0)) HEND.out.2.1 Try.underlying29 rfl (by kernel_rfl) HEND.out.2.2.1 Try.underlying35 rfl (by kernel_rfl) rfl ?_
         rw [HSO.out]
         exact ⟨_, _, rfl, HEND.out.2.2.2.1.below (below_drewN' (Below.refl _ _) 1), HEND.out.2.2.2.2.1.below (below_drewN' (Below.refl _ _) 1), below_drewN' HEND.out.2.2.2.2.2 1⟩)
  · have HSO : Hid (stepO 5 x n d sh (B, L, D) = (B, L, D)) := rfl
    obtain ⟨tb, et, hle⟩ : ∃ tb et, loadO B L x n = (tb, et) := ⟨_, _, rfl⟩
    have hlo := load_any x n w1 HH.out.shut HR.out HIX.out HIN.out
    rw [hle] at hlo
    have HLO := Lib.hid hlo
    have HLE := Lib.hid hle
    clear hlo hle
    go_wp2_with (refine wpList_load_row rfl 29 _ rfl N rfl 29 #[.slice A1 nb c1, .slice A2 nk c2, .slice A3 nd c3] (0, 0) _ HX.out Try.underlying29 rfl (by kernel_rfl) ?_)
    refine HLO.out.mono ?_
    rintro e w2 ⟨ub, rfl, hob, hb2⟩
    obtain ⟨Au, cu, rfl, -⟩ := ownk_form hob
    obtain ⟨lu, hlu⟩ : ∃ lu, tb.length = lu := ⟨_, rfl⟩
    simp only [hlu] at hob ⊢
    have HLU := Lib.hid hlu
    have HOB2 := Lib.hid hob
    have HX2 := Lib.hid (old_below HX.out hb2 (row_lt HX.out))
    have HXR2 := Lib.hid (old_below HXR.out hb2 (row_lt HXR.out))
    have HXO2 := Lib.hid (old_below HXO.out hb2 (row_lt HXO.out))
    have HYH2 := Lib.hid (old_below HYH.out hb2 (row_lt HYH.out))
    have HYR2 := Lib.hid (old_below HYR.out hb2 (row_lt HYR.out))
    have HH2 := Lib.hid (HH.out.below hb2)
    have HV2 := Lib.hid (HV.out.below hb2)
    have HB2 := Lib.hid (HB1.out.trans (hb2.mono HNS.out))
    have HSZ2 : Hid (w1.heap.size ≤ w2.heap.size) := hb2.size
    clear hob hb2 hlu f0 f1 f2 f3 f4
    obtain ⟨f0, f1, f2, f3, f4⟩ := five_cells HXO2.out
    have hrl := refload_any x n w2 HV2.out.shut HR.out HIX.out HIN.out
    rw [HLE.out] at hrl
    have HRL := Lib.hid hrl
    clear hrl
    go_wp2_with (refine wpList_load_row rfl 35 _ rfl (N + 1) rfl 35 #[.string ⟨B.toArray⟩, .slice A4 nk c4, .slice A5 nd c5] (0, 0) _ HXR2.out Try.underlying35 rfl (by kernel_rfl) ?_)
    refine HRL.out.mono ?_
    rintro e w5 ⟨rfl, hb4⟩
    have HYH5 := Lib.hid (old_below HYH2.out hb4 (row_lt HYH2.out))
    have HYR5 := Lib.hid (old_below HYR2.out hb4 (row_lt HYR2.out))
    have HX5 := Lib.hid (old_below HX2.out hb4 (row_lt HX2.out))
    have HXR5 := Lib.hid (old_below HXR2.out hb4 (row_lt HXR2.out))
    have HP5 := Lib.hid (HH2.out.below hb4)
    have HV5 := Lib.hid (HV2.out.below hb4)
    have HB5 := Lib.hid (HB2.out.trans (hb4.mono (Nat.le_trans HNS.out HSZ2.out)))
    have HOB5 := Lib.hid (ownk_below HOB2.out hb4 (Nat.le_refl _))
    clear hb4 f0 f1 f2 f3 f4
    go_upto_region 19 with (fail)
    have HEND := Lib.hid (step_end HP5.out HV5.out HYH5.out HYR5.out HB5.out)
    obtain ⟨a0, a1, a2⟩ := three_cells HX5.out
    obtain ⟨b0, b1, b2⟩ := three_cells HXR5.out
    obtain ⟨p0, p1, p2⟩ := three_cells HYH5.out
    obtain ⟨q0, q1, q2⟩ := three_cells HYR5.out
    have g0 := frozen_of_row w5 (N + 3) 0 _ _ HYH5.out
    have g1 := frozen_of_row w5 (N + 3) 1 _ _ HYH5.out
    have g2 := frozen_of_row w5 (N + 3) 2 _ _ HYH5.out
    have k0 := frozen_of_row w5 (N + 4) 0 _ _ HYR5.out
    have k1 := frozen_of_row w5 (N + 4) 1 _ _ HYR5.out
    have k2 := frozen_of_row w5 (N + 4) 2 _ _ HYR5.out
    have HOBX : Hid (w5.ownsRow w1.heap.size 5 1 (.slice Au lu cu) tb.length (cells tb)) := by show World.ownsRow _ _ _ _ _ _ _; rw [HLU.out]; exact HOB5.out
    have hnn : tb.length = lu := HLU.out
    have cv1 : (convert 25 9 (.slice Au lu cu)).run Try.prog w5.drew = .ok (.string ⟨tb.toArray⟩) w5.drew := conv_row (w := w5.drew) HOBX.out
    have cv2 : (convert 25 9 (.slice Au lu cu)).run Try.prog (((w5.setCell ⟨N + 1 + 1 + 1, 0, none⟩ (.slice A1 nb c1)).setCell ⟨N + 1 + 1 + 1, 1, none⟩ (.slice A2 nk c2)).setCell ⟨N + 1 + 1 + 1, 2, none⟩ (.slice A3 nd c3)).drew = .ok (.string ⟨tb.toArray⟩) (((w5.setCell ⟨N + 1 + 1 + 1, 0, none⟩ (.slice A1 nb c1)).setCell ⟨N + 1 + 1 + 1, 1, none⟩ (.slice A2 nk c2)).setCell ⟨N + 1 + 1 + 1, 2, none⟩ (.slice A3 nd c3)).drew := by
      rw [row3 (show w5.heap[N + 1 + 1 + 1]? = some (.cells #[.slice none 0 0, .slice none 0 0, .slice none 0 0] 29 (0, 0)) from HYH5.out)]
      exact conv_row (w := (w5.setRow (N + 1 + 1 + 1) #[(.slice A1 nb c1), (.slice A2 nk c2), (.slice A3 nd c3)]).drew) (ownk_other HOBX.out HYH5.out (by decide) (setRow_cells _ _ _))
    have cv3 : (convert 25 9 (.slice Au lu cu)).run Try.prog (((w5.setCell ⟨N + 1 + 1 + 1 + 1, 0, none⟩ (.string ⟨B.toArray⟩)).setCell ⟨N + 1 + 1 + 1 + 1, 1, none⟩ (.slice A4 nk c4)).setCell ⟨N + 1 + 1 + 1 + 1, 2, none⟩ (.slice A5 nd c5)).drew = .ok (.string ⟨tb.toArray⟩) (((w5.setCell ⟨N + 1 + 1 + 1 + 1, 0, none⟩ (.string ⟨B.toArray⟩)).setCell ⟨N + 1 + 1 + 1 + 1, 1, none⟩ (.slice A4 nk c4)).setCell ⟨N + 1 + 1 + 1 + 1, 2, none⟩ (.slice A5 nd c5)).drew := by
      rw [row3 (show w5.heap[N + 1 + 1 + 1 + 1]? = some (.cells #[.string ⟨#[]⟩, .slice none 0 0, .slice none 0 0] 35 (0, 0)) from HYR5.out)]
      exact conv_row (w := (w5.setRow (N + 1 + 1 + 1 + 1) #[(.string ⟨B.toArray⟩), (.slice A4 nk c4), (.slice A5 nd c5)]).drew) (ownk_other HOBX.out HYR5.out (by decide) (setRow_cells _ _ _))
    have cv4 : (convert 25 9 (.slice Au lu cu)).run Try.prog ((((((w5.setCell ⟨N + 1 + 1 + 1, 0, none⟩ (.slice A1 nb c1)).setCell ⟨N + 1 + 1 + 1, 1, none⟩ (.slice A2 nk c2)).setCell ⟨N + 1 + 1 + 1, 2, none⟩ (.slice A3 nd c3)).setCell ⟨N + 1 + 1 + 1 + 1, 0, none⟩ (.string ⟨B.toArray⟩)).setCell ⟨N + 1 + 1 + 1 + 1, 1, none⟩ (.slice A4 nk c4)).setCell ⟨N + 1 + 1 + 1 + 1, 2, none⟩ (.slice A5 nd c5)).drew = .ok (.string ⟨tb.toArray⟩) ((((((w5.setCell ⟨N + 1 + 1 + 1, 0, none⟩ (.slice A1 nb c1)).setCell ⟨N + 1 + 1 + 1, 1, none⟩ (.slice A2 nk c2)).setCell ⟨N + 1 + 1 + 1, 2, none⟩ (.slice A3 nd c3)).setCell ⟨N + 1 + 1 + 1 + 1, 0, none⟩ (.string ⟨B.toArray⟩)).setCell ⟨N + 1 + 1 + 1 + 1, 1, none⟩ (.slice A4 nk c4)).setCell ⟨N + 1 + 1 + 1 + 1, 2, none⟩ (.slice A5 nd c5)).drew := by
      rw [row3 (show w5.heap[N + 1 + 1 + 1]? = some (.cells #[.slice none 0 0, .slice none 0 0, .slice none 0 0] 29 (0, 0)) from HYH5.out), row3 (show (w5.setRow (N + 1 + 1 + 1) #[(.slice A1 nb c1), (.slice A2 nk c2), (.slice A3 nd c3)]).heap[N + 1 + 1 + 1 + 1]? = some (.cells #[.string ⟨#[]⟩, .slice none 0 0, .slice none 0 0] 35 (0, 0)) from (setRow_other _ _ _ _ (by omega)).trans HYR5.out)]
      exact conv_row (w := ((w5.setRow (N + 1 + 1 + 1) #[(.slice A1 nb c1), (.slice A2 nk c2), (.slice A3 nd c3)]).setRow (N + 1 + 1 + 1 + 1) #[(.string ⟨B.toArray⟩), (.slice A4 nk c4), (.slice A5 nd c5)]).drew) (ownk_other (ownk_other HOBX.out HYH5.out (by decide) (setRow_cells _ _ _)) (show (w5.setRow (N + 1 + 1 + 1) #[(.slice A1 nb c1), (.slice A2 nk c2), (.slice A3 nd c3)]).heap[N + 1 + 1 + 1 + 1]? = some (.cells #[.string ⟨#[]⟩, .slice none 0 0, .slice none 0 0] 35 (0, 0)) from (setRow_other _ _ _ _ (by omega)).trans HYR5.out) (by decide) (setRow_cells _ _ _))
    have cv5 : (convert 25 9 (.slice Au lu cu)).run Try.prog ((((((w5.setCell ⟨N + 1 + 1 + 1 + 1, 0, none⟩ (.string ⟨B.toArray⟩)).setCell ⟨N + 1 + 1 + 1 + 1, 1, none⟩ (.slice A4 nk c4)).setCell ⟨N + 1 + 1 + 1 + 1, 2, none⟩ (.slice A5 nd c5)).setCell ⟨N + 1 + 1 + 1, 0, none⟩ (.slice A1 nb c1)).setCell ⟨N + 1 + 1 + 1, 1, none⟩ (.slice A2 nk c2)).setCell ⟨N + 1 + 1 + 1, 2, none⟩ (.slice A3 nd c3)).drew = .ok (.string ⟨tb.toArray⟩) ((((((w5.setCell ⟨N + 1 + 1 + 1 + 1, 0, none⟩ (.string ⟨B.toArray⟩)).setCell ⟨N + 1 + 1 + 1 + 1, 1, none⟩ (.slice A4 nk c4)).setCell ⟨N + 1 + 1 + 1 + 1, 2, none⟩ (.slice A5 nd c5)).setCell ⟨N + 1 + 1 + 1, 0, none⟩ (.slice A1 nb c1)).setCell ⟨N + 1 + 1 + 1, 1, none⟩ (.slice A2 nk c2)).setCell ⟨N + 1 + 1 + 1, 2, none⟩ (.slice A3 nd c3)).drew := by
      rw [row3 (show w5.heap[N + 1 + 1 + 1 + 1]? = some (.cells #[.string ⟨#[]⟩, .slice none 0 0, .slice none 0 0] 35 (0, 0)) from HYR5.out), row3 (show (w5.setRow (N + 1 + 1 + 1 + 1) #[(.string ⟨B.toArray⟩), (.slice A4 nk c4), (.slice A5 nd c5)]).heap[N + 1 + 1 + 1]? = some (.cells #[.slice none 0 0, .slice none 0 0, .slice none 0 0] 29 (0, 0)) from (setRow_other _ _ _ _ (by omega)).trans HYH5.out)]
      exact conv_row (w := ((w5.setRow (N + 1 + 1 + 1 + 1) #[(.string ⟨B.toArray⟩), (.slice A4 nk c4), (.slice A5 nd c5)]).setRow (N + 1 + 1 + 1) #[(.slice A1 nb c1), (.slice A2 nk c2), (.slice A3 nd c3)]).drew) (ownk_other (ownk_other HOBX.out HYR5.out (by decide) (setRow_cells _ _ _)) (show (w5.setRow (N + 1 + 1 + 1 + 1) #[(.string ⟨B.toArray⟩), (.slice A4 nk c4), (.slice A5 nd c5)]).heap[N + 1 + 1 + 1]? = some (.cells #[.slice none 0 0, .slice none 0 0, .slice none 0 0] 29 (0, 0)) from (setRow_other _ _ _ _ (by omega)).trans HYH5.out) (by decide) (setRow_cells _ _ _))
    go_region
    all_goals first
      | (rw [row3 HYH5.out, row3 (w := w5.setRow (N + 3) _) ((setRow_other _ _ _ _ (by omega)).trans HYR5.out)]
         go_wp2
         refine ret_cct (g := N + 3) (g2 := N + 4) rfl rfl rfl (t := 29) (t2 := 35) (fr := (0, 0)) (fr2 := (0, 0)) HEND.out.1.1 Try.underlying29 rfl (by kernel_rfl) HEND.out.1.2.1 Try.underlying35 rfl (by kernel_rfl) rfl ?_
         rw [HSO.out]
         exact ⟨_, _, rfl, HEND.out.1.2.2.1.below (below_drewN' (Below.refl _ _) 1), HEND.out.1.2.2.2.1.below (below_drewN' (Below.refl _ _) 1), below_drewN' HEND.out.1.2.2.2.2 1⟩)
      | (rw [row3 HYR5.out, row3 (w := w5.setRow (N + 4) _) ((setRow_other _ _ _ _ (by omega)).trans HYH5.out)]
         go_wp2
         refine ret_cct (g := N + 3) (g2 := N + 4) rfl rfl rfl (t := 29) (t2 := 35) (fr := (0, 0)) (fr2 := (0, 0)) HEND.out.2.1 Try.underlying29 rfl (by kernel_rfl) HEND.out.2.2.1 Try.underlying35 rfl (by kernel_rfl) rfl ?_
         rw [HSO.out]
         exact ⟨_, _, rfl, HEND.out.2.2.2.1.below (below_drewN' (Below.refl _ _) 1), HEND.out.2.2.2.2.1.below (below_drewN' (Below.refl _ _) 1), below_drewN' HEND.out.2.2.2.2.2 1⟩)
  · have HSO : Hid (stepO 6 x n d sh (B, L, D) = (B, L, (tellO B D x).1)) := rfl
    go_wp2_with (refine wpList_load_row rfl 29 _ rfl N rfl 29 #[.slice A1 nb c1, .slice A2 nk c2, .slice A3 nd c3] (0, 0) _ HX.out Try.underlying29 rfl (by kernel_rfl) ?_)
    refine (tell_any x w1 HH.out.shut HR.out HIX.out).mono ?_
    rintro e w2 ⟨v, ub, rfl, ⟨z1, z2, z3, rfl, hp2⟩, hob, hb2⟩
    obtain ⟨Ya, la, ca, Yb, lb, cb, Yc, lc, cc, rfl, rfl, rfl⟩ := hp2.forms_
    have hbb2 := hb2.alloc hb2.size (.cells #[.slice Ya la ca, .slice Yb lb cb, .slice Yc lc cc] 29)
    have HON := Lib.hid hp2.ones
    have HXR2 := Lib.hid (old_below HXR.out hbb2 (row_lt HXR.out))
    have HXO2 := Lib.hid (old_below HXO.out hbb2 (row_lt HXO.out))
    have HYH2 := Lib.hid (old_below HYH.out hbb2 (row_lt HYH.out))
    have HYR2 := Lib.hid (old_below HYR.out hbb2 (row_lt HYR.out))
    have HV2 := Lib.hid (HV.out.below hbb2)
    have HP2 := Lib.hid ((hp2.alloc (.cells #[.slice Ya la ca, .slice Yb lb cb, .slice Yc lc cc] 29)).wide (Nat.zero_le _))
    have HZ2 := Lib.hid (heap_alloc_new w2 (.cells #[.slice Ya la ca, .slice Yb lb cb, .slice Yc lc cc] 29))
    have HB2 := Lib.hid (HB1.out.trans (hbb2.mono HNS.out))
    have HRD2 := Lib.hid (HRD.out.below hbb2 HHI.out)
    have HP2N : Hid (N + 4 < w2.heap.size) := row_lt (old_below HYR.out hb2 (row_lt HYR.out))
    have HSZ2 : Hid (w1.heap.size ≤ (w2.alloc (.cells #[.slice Ya la ca, .slice Yb lb cb, .slice Yc lc cc] 29)).heap.size) := hbb2.size
    obtain ⟨tb, htb⟩ : ∃ tb, (tellO B D x).2.1 = tb := ⟨_, rfl⟩
    rw [htb] at hob
    have HTB := Lib.hid htb
    obtain ⟨Au, cu, rfl, -⟩ := ownk_form hob
    obtain ⟨lu, hlu⟩ : ∃ lu, tb.length = lu := ⟨_, rfl⟩
    rw [hlu] at hob
    have HLU := Lib.hid hlu
    have HOB2 := Lib.hid (ownk_below hob ((Below.refl _ _).alloc (Nat.le_refl _) (.cells #[.slice Ya la ca, .slice Yb lb cb, .slice Yc lc cc] 29)) (Nat.le_refl _))
    clear htb hlu hob
    clear hp2 hb2 hbb2 f0 f1 f2 f3 f4
    go_upto_region 22 with (first | refine wpList_store_new rfl 29 _ _ rfl w2 #[.slice none 0 0, .slice none 0 0, .slice none 0 0] #[.slice Ya la ca, .slice Yb lb cb, .slice Yc lc cc] rfl rfl (by kernel_rfl) rfl HON.out ?_)
    generalize w2.alloc (.cells #[.slice Ya la ca, .slice Yb lb cb, .slice Yc lc cc] 29) = w3 at HXR2 HXO2 HYH2 HYR2 HV2 HP2 HZ2 HB2 HRD2 HSZ2 HOB2 ⊢
    generalize w2.heap.size = P2 at HZ2 HP2N ⊢
    obtain ⟨f0, f1, f2, f3, f4⟩ := five_cells HXO2.out
    have hrt := reftell_any x w3 HV2.out.shut HR.out HIX.out
    rw [HTB.out] at hrt
    have HRT := Lib.hid hrt
    clear hrt
    go_wp2_with (refine wpList_load_row rfl 35 _ rfl (N + 1) rfl 35 #[.string ⟨B.toArray⟩, .slice A4 nk c4, .slice A5 nd c5] (0, 0) _ HXR2.out Try.underlying35 rfl (by kernel_rfl) ?_)
    refine HRT.out.mono ?_
    rintro e w4 ⟨v, rfl, ⟨y1, y2, y3, rfl, hp4⟩, hb4⟩
    have HON4 := Lib.hid hp4.ones
    obtain ⟨XS, Xb, kb, xb, Xc, kc, xc, rfl, rfl, rfl⟩ := hp4.forms_
    have hbb4 := hb4.alloc hb4.size (.cells #[.string XS, .slice Xb kb xb, .slice Xc kc xc] 35)
    have HOB5 := Lib.hid (ownk_below HOB2.out hbb4 (Nat.le_refl _))
    have HYH5 := Lib.hid (old_below HYH2.out hbb4 (row_lt HYH2.out))
    have HYR5 := Lib.hid (old_below HYR2.out hbb4 (row_lt HYR2.out))
    have HP5 := Lib.hid (HP2.out.below hbb4)
    have HZ5 := Lib.hid (old_below HZ2.out hbb4 (row_lt HZ2.out))
    have HV5 := Lib.hid (hp4.alloc (.cells #[.string XS, .slice Xb kb xb, .slice Xc kc xc] 35))
    have HU5 := Lib.hid (heap_alloc_new w4 (.cells #[.string XS, .slice Xb kb xb, .slice Xc kc xc] 35))
    have HB5 := Lib.hid (HB2.out.trans (hbb4.mono (Nat.le_trans HNS.out HSZ2.out)))
    have HP4N : Hid (N + 4 < w4.heap.size) := row_lt (old_below HYR2.out hb4 (row_lt HYR2.out))
    clear hp4 hb4 hbb4 f0 f1 f2 f3 f4
    go_upto_region 23 with (first | refine wpList_store_new rfl 35 _ _ rfl w4 #[.string ⟨#[]⟩, .slice none 0 0, .slice none 0 0] #[.string XS, .slice Xb kb xb, .slice Xc kc xc] rfl rfl (by kernel_rfl) rfl HON4.out ?_)
    generalize w4.alloc (.cells #[.string XS, .slice Xb kb xb, .slice Xc kc xc] 35) = w5 at HYH5 HYR5 HP5 HZ5 HV5 HU5 HB5 HOB5 ⊢
    generalize w4.heap.size = P4 at HU5 HP4N ⊢
    have HEND := Lib.hid (step_end HP5.out HV5.out HYH5.out HYR5.out HB5.out)
    obtain ⟨a0, a1, a2⟩ := three_cells HZ5.out
    obtain ⟨b0, b1, b2⟩ := three_cells HU5.out
    obtain ⟨p0, p1, p2⟩ := three_cells HYH5.out
    obtain ⟨q0, q1, q2⟩ := three_cells HYR5.out
    have g0 := frozen_of_row w5 (N + 3) 0 _ _ HYH5.out
    have g1 := frozen_of_row w5 (N + 3) 1 _ _ HYH5.out
    have g2 := frozen_of_row w5 (N + 3) 2 _ _ HYH5.out
    have k0 := frozen_of_row w5 (N + 4) 0 _ _ HYR5.out
    have k1 := frozen_of_row w5 (N + 4) 1 _ _ HYR5.out
    have k2 := frozen_of_row w5 (N + 4) 2 _ _ HYR5.out
    have d1 : ¬ N + 1 + 1 + 1 = P2 := by have := HP2N.out; omega
    have d2 : ¬ N + 1 + 1 + 1 = P4 := by have := HP4N.out; omega
    have d3 : ¬ N + 1 + 1 + 1 + 1 = P2 := by have := HP2N.out; omega
    have d4 : ¬ N + 1 + 1 + 1 + 1 = P4 := by have := HP4N.out; omega
    have d5 : ¬ P2 = N + 1 + 1 + 1 := by have := HP2N.out; omega
    have d6 : ¬ P4 = N + 1 + 1 + 1 := by have := HP4N.out; omega
    have d7 : ¬ P2 = N + 1 + 1 + 1 + 1 := by have := HP2N.out; omega
    have d8 : ¬ P4 = N + 1 + 1 + 1 + 1 := by have := HP4N.out; omega
    have HOBX : Hid (w5.ownsRow w1.heap.size 5 1 (.slice Au lu cu) tb.length (cells tb)) := by show World.ownsRow _ _ _ _ _ _ _; rw [HLU.out]; exact HOB5.out
    have hnn : tb.length = lu := HLU.out
    have cv1 : (convert 25 9 (.slice Au lu cu)).run Try.prog w5.drew = .ok (.string ⟨tb.toArray⟩) w5.drew := conv_row (w := w5.drew) HOBX.out
    have cv2 : (convert 25 9 (.slice Au lu cu)).run Try.prog (((w5.setCell ⟨N + 1 + 1 + 1, 0, none⟩ (.slice Ya la ca)).setCell ⟨N + 1 + 1 + 1, 1, none⟩ (.slice Yb lb cb)).setCell ⟨N + 1 + 1 + 1, 2, none⟩ (.slice Yc lc cc)).drew = .ok (.string ⟨tb.toArray⟩) (((w5.setCell ⟨N + 1 + 1 + 1, 0, none⟩ (.slice Ya la ca)).setCell ⟨N + 1 + 1 + 1, 1, none⟩ (.slice Yb lb cb)).setCell ⟨N + 1 + 1 + 1, 2, none⟩ (.slice Yc lc cc)).drew := by
      rw [row3 (show w5.heap[N + 1 + 1 + 1]? = some (.cells #[.slice none 0 0, .slice none 0 0, .slice none 0 0] 29 (0, 0)) from HYH5.out)]
      exact conv_row (w := (w5.setRow (N + 1 + 1 + 1) #[(.slice Ya la ca), (.slice Yb lb cb), (.slice Yc lc cc)]).drew) (ownk_other HOBX.out HYH5.out (by decide) (setRow_cells _ _ _))
    have cv3 : (convert 25 9 (.slice Au lu cu)).run Try.prog (((w5.setCell ⟨N + 1 + 1 + 1 + 1, 0, none⟩ (.string XS)).setCell ⟨N + 1 + 1 + 1 + 1, 1, none⟩ (.slice Xb kb xb)).setCell ⟨N + 1 + 1 + 1 + 1, 2, none⟩ (.slice Xc kc xc)).drew = .ok (.string ⟨tb.toArray⟩) (((w5.setCell ⟨N + 1 + 1 + 1 + 1, 0, none⟩ (.string XS)).setCell ⟨N + 1 + 1 + 1 + 1, 1, none⟩ (.slice Xb kb xb)).setCell ⟨N + 1 + 1 + 1 + 1, 2, none⟩ (.slice Xc kc xc)).drew := by
      rw [row3 (show w5.heap[N + 1 + 1 + 1 + 1]? = some (.cells #[.string ⟨#[]⟩, .slice none 0 0, .slice none 0 0] 35 (0, 0)) from HYR5.out)]
      exact conv_row (w := (w5.setRow (N + 1 + 1 + 1 + 1) #[(.string XS), (.slice Xb kb xb), (.slice Xc kc xc)]).drew) (ownk_other HOBX.out HYR5.out (by decide) (setRow_cells _ _ _))
    have cv4 : (convert 25 9 (.slice Au lu cu)).run Try.prog ((((((w5.setCell ⟨N + 1 + 1 + 1, 0, none⟩ (.slice Ya la ca)).setCell ⟨N + 1 + 1 + 1, 1, none⟩ (.slice Yb lb cb)).setCell ⟨N + 1 + 1 + 1, 2, none⟩ (.slice Yc lc cc)).setCell ⟨N + 1 + 1 + 1 + 1, 0, none⟩ (.string XS)).setCell ⟨N + 1 + 1 + 1 + 1, 1, none⟩ (.slice Xb kb xb)).setCell ⟨N + 1 + 1 + 1 + 1, 2, none⟩ (.slice Xc kc xc)).drew = .ok (.string ⟨tb.toArray⟩) ((((((w5.setCell ⟨N + 1 + 1 + 1, 0, none⟩ (.slice Ya la ca)).setCell ⟨N + 1 + 1 + 1, 1, none⟩ (.slice Yb lb cb)).setCell ⟨N + 1 + 1 + 1, 2, none⟩ (.slice Yc lc cc)).setCell ⟨N + 1 + 1 + 1 + 1, 0, none⟩ (.string XS)).setCell ⟨N + 1 + 1 + 1 + 1, 1, none⟩ (.slice Xb kb xb)).setCell ⟨N + 1 + 1 + 1 + 1, 2, none⟩ (.slice Xc kc xc)).drew := by
      rw [row3 (show w5.heap[N + 1 + 1 + 1]? = some (.cells #[.slice none 0 0, .slice none 0 0, .slice none 0 0] 29 (0, 0)) from HYH5.out), row3 (show (w5.setRow (N + 1 + 1 + 1) #[(.slice Ya la ca), (.slice Yb lb cb), (.slice Yc lc cc)]).heap[N + 1 + 1 + 1 + 1]? = some (.cells #[.string ⟨#[]⟩, .slice none 0 0, .slice none 0 0] 35 (0, 0)) from (setRow_other _ _ _ _ (by omega)).trans HYR5.out)]
      exact conv_row (w := ((w5.setRow (N + 1 + 1 + 1) #[(.slice Ya la ca), (.slice Yb lb cb), (.slice Yc lc cc)]).setRow (N + 1 + 1 + 1 + 1) #[(.string XS), (.slice Xb kb xb), (.slice Xc kc xc)]).drew) (ownk_other (ownk_other HOBX.out HYH5.out (by decide) (setRow_cells _ _ _)) (show (w5.setRow (N + 1 + 1 + 1) #[(.slice Ya la ca), (.slice Yb lb cb), (.slice Yc lc cc)]).heap[N + 1 + 1 + 1 + 1]? = some (.cells #[.string ⟨#[]⟩, .slice none 0 0, .slice none 0 0] 35 (0, 0)) from (setRow_other _ _ _ _ (by omega)).trans HYR5.out) (by decide) (setRow_cells _ _ _))
    have cv5 : (convert 25 9 (.slice Au lu cu)).run Try.prog ((((((w5.setCell ⟨N + 1 + 1 + 1 + 1, 0, none⟩ (.string XS)).setCell ⟨N + 1 + 1 + 1 + 1, 1, none⟩ (.slice Xb kb xb)).setCell ⟨N + 1 + 1 + 1 + 1, 2, none⟩ (.slice Xc kc xc)).setCell ⟨N + 1 + 1 + 1, 0, none⟩ (.slice Ya la ca)).setCell ⟨N + 1 + 1 + 1, 1, none⟩ (.slice Yb lb cb)).setCell ⟨N + 1 + 1 + 1, 2, none⟩ (.slice Yc lc cc)).drew = .ok (.string ⟨tb.toArray⟩) ((((((w5.setCell ⟨N + 1 + 1 + 1 + 1, 0, none⟩ (.string XS)).setCell ⟨N + 1 + 1 + 1 + 1, 1, none⟩ (.slice Xb kb xb)).setCell ⟨N + 1 + 1 + 1 + 1, 2, none⟩ (.slice Xc kc xc)).setCell ⟨N + 1 + 1 + 1, 0, none⟩ (.slice Ya la ca)).setCell ⟨N + 1 + 1 + 1, 1, none⟩ (.slice Yb lb cb)).setCell ⟨N + 1 + 1 + 1, 2, none⟩ (.slice Yc lc cc)).drew := by
      rw [row3 (show w5.heap[N + 1 + 1 + 1 + 1]? = some (.cells #[.string ⟨#[]⟩, .slice none 0 0, .slice none 0 0] 35 (0, 0)) from HYR5.out), row3 (show (w5.setRow (N + 1 + 1 + 1 + 1) #[(.string XS), (.slice Xb kb xb), (.slice Xc kc xc)]).heap[N + 1 + 1 + 1]? = some (.cells #[.slice none 0 0, .slice none 0 0, .slice none 0 0] 29 (0, 0)) from (setRow_other _ _ _ _ (by omega)).trans HYH5.out)]
      exact conv_row (w := ((w5.setRow (N + 1 + 1 + 1 + 1) #[(.string XS), (.slice Xb kb xb), (.slice Xc kc xc)]).setRow (N + 1 + 1 + 1) #[(.slice Ya la ca), (.slice Yb lb cb), (.slice Yc lc cc)]).drew) (ownk_other (ownk_other HOBX.out HYR5.out (by decide) (setRow_cells _ _ _)) (show (w5.setRow (N + 1 + 1 + 1 + 1) #[(.string XS), (.slice Xb kb xb), (.slice Xc kc xc)]).heap[N + 1 + 1 + 1]? = some (.cells #[.slice none 0 0, .slice none 0 0, .slice none 0 0] 29 (0, 0)) from (setRow_other _ _ _ _ (by omega)).trans HYH5.out) (by decide) (setRow_cells _ _ _))
    go_region
    all_goals first
      | (rw [row3 HYH5.out, row3 (w := w5.setRow (N + 3) _) ((setRow_other _ _ _ _ (by omega)).trans HYR5.out)]
         go_wp2
         refine ret_cct (g := N + 3) (g2 := N + 4) rfl rfl rfl (t := 29) (t2 := 35) (fr := (0, 0)) (fr2 := (0, 0)) HEND.out.1.1 Try.underlying29 rfl (by kernel_rfl) HEND.out.1.2.1 Try.underlying35 rfl (by kernel_rfl) rfl ?_
         rw [HSO.out]
         exact ⟨_, _, rfl, HEND.out.1.2.2.1.below (below_drewN' (Below.refl _ _) 1), HEND.out.1.2.2.2.1.below (below_drewN' (Below.refl _ _) 1), below_drewN' HEND.out.1.2.2.2.2 1⟩)
      | (rw [row3 HYR5.out, row3 (w := w5.setRow (N + 4) _) ((setRow_other _ _ _ _ (by omega)).trans HYH5.out)]
         go_wp2
         refine ret_cct (g := N + 3) (g2 := N + 4) rfl rfl rfl (t := 29) (t2 := 35) (fr := (0, 0)) (fr2 := (0, 0)) HEND.out.2.1 Try.underlying29 rfl (by kernel_rfl) HEND.out.2.2.1 Try.underlying35 rfl (by kernel_rfl) rfl ?_
         rw [HSO.out]
         exact ⟨_, _, rfl, HEND.out.2.2.2.1.below (below_drewN' (Below.refl _ _) 1), HEND.out.2.2.2.2.1.below (below_drewN' (Below.refl _ _) 1), below_drewN' HEND.out.2.2.2.2.2 1⟩)
  · cases sh
    · go_wp2_with fail
      refine (page_any A c m 0 hi d w1 HDM.out (by omega) HAN.out HRD.out HHI.out).mono ?_
      rintro e wp ⟨gp, hgp, rfl, hop, hbp⟩
      obtain ⟨dp, hdp⟩ : ∃ dp, putB (List.replicate 64 0) 0 (d.take 64) = dp := ⟨_, rfl⟩
      rw [hdp] at hop
      have HDP : Hid (dp.length = 64) := by show _ = _; rw [← hdp]; exact page_len (by rw [List.length_take]; omega)
      have HDE := Lib.hid hdp
      have HRD := Lib.hid (ownk_rd hop)
      clear f0 f1 f2 f3 f4
      have HB1 := Lib.hid (HB1.out.trans (hbp.mono HNS.out))
      have HX := Lib.hid (old_below HX.out hbp (row_lt HX.out))
      have HXR := Lib.hid (old_below HXR.out hbp (row_lt HXR.out))
      have HXO := Lib.hid (old_below HXO.out hbp (row_lt HXO.out))
      have HYH := Lib.hid (old_below HYH.out hbp (row_lt HYH.out))
      have HYR := Lib.hid (old_below HYR.out hbp (row_lt HYR.out))
      have HH := Lib.hid (HH.out.below hbp)
      have HV := Lib.hid (HV.out.below hbp)
      have HNS : Hid (N ≤ wp.heap.size) := Nat.le_trans HNS.out hbp.size
      obtain ⟨f0, f1, f2, f3, f4⟩ := five_cells HXO.out
      clear hop hbp hdp
      have HSO : Hid (stepO 7 x n d false (B, L, D) = ((hearO B D.length x dp).1, L, D)) := by show _ = _; rw [← HDE.out]; rfl
      go_wp2_with (refine wpList_load_row rfl 29 _ rfl N rfl 29 #[.slice A1 nb c1, .slice A2 nk c2, .slice A3 nd c3] (0, 0) _ HX.out Try.underlying29 rfl (by kernel_rfl) ?_)
      refine (hear_any x (some ⟨gp, 0, none⟩) 64 64 w1.heap.size wp.heap.size dp wp HH.out.shut HR.out HIX.out HDP.out (by omega) HRD.out (Nat.le_refl _)).mono ?_
      rintro e w2 ⟨v, rfl, ⟨z1, z2, z3, rfl, hp2⟩, hb2⟩
      obtain ⟨Ya, la, ca, Yb, lb, cb, Yc, lc, cc, rfl, rfl, rfl⟩ := hp2.forms_
      have hbb2 := hb2.alloc hb2.size (.cells #[.slice Ya la ca, .slice Yb lb cb, .slice Yc lc cc] 29)
      have HON := Lib.hid hp2.ones
      have HXR2 := Lib.hid (old_below HXR.out hbb2 (row_lt HXR.out))
      have HXO2 := Lib.hid (old_below HXO.out hbb2 (row_lt HXO.out))
      have HYH2 := Lib.hid (old_below HYH.out hbb2 (row_lt HYH.out))
      have HYR2 := Lib.hid (old_below HYR.out hbb2 (row_lt HYR.out))
      have HV2 := Lib.hid (HV.out.below hbb2)
      have HP2 := Lib.hid ((hp2.alloc (.cells #[.slice Ya la ca, .slice Yb lb cb, .slice Yc lc cc] 29)).wide (Nat.zero_le _))
      have HZ2 := Lib.hid (heap_alloc_new w2 (.cells #[.slice Ya la ca, .slice Yb lb cb, .slice Yc lc cc] 29))
      have HB2 := Lib.hid (HB1.out.trans (hbb2.mono HNS.out))
      have HRD2 := Lib.hid (HRD.out.below hbb2 (Nat.le_refl _))
      have HP2N : Hid (N + 4 < w2.heap.size) := row_lt (old_below HYR.out hb2 (row_lt HYR.out))
      have HSZ2 : Hid (wp.heap.size ≤ (w2.alloc (.cells #[.slice Ya la ca, .slice Yb lb cb, .slice Yc lc cc] 29)).heap.size) := hbb2.size
      clear hp2 hb2 hbb2 f0 f1 f2 f3 f4
      go_upto_region 28 with (first | refine wpList_store_new rfl 29 _ _ rfl w2 #[.slice none 0 0, .slice none 0 0, .slice none 0 0] #[.slice Ya la ca, .slice Yb lb cb, .slice Yc lc cc] rfl rfl (by kernel_rfl) rfl HON.out ?_)
      generalize w2.alloc (.cells #[.slice Ya la ca, .slice Yb lb cb, .slice Yc lc cc] 29) = w3 at HXR2 HXO2 HYH2 HYR2 HV2 HP2 HZ2 HB2 HRD2 HSZ2 ⊢
      generalize w2.heap.size = P2 at HZ2 HP2N ⊢
      obtain ⟨f0, f1, f2, f3, f4⟩ := five_cells HXO2.out
      have hcv : (convert 25 9 (.slice (some ⟨gp, 0, none⟩) 64 64)).run Try.prog w3 = .ok (.string ⟨dp.toArray⟩) w3 := by
        have := run_text (P := Try.prog) w3 25 9 5 (l := dp) 64 Try.underlying25 Try.underlying5 Try.underlying9 HRD2.out
        rwa [HDP.out] at this
      go_wp2_with (refine wpList_load_row rfl 35 _ rfl (N + 1) rfl 35 #[.string ⟨B.toArray⟩, .slice A4 nk c4, .slice A5 nd c5] (0, 0) _ HXR2.out Try.underlying35 rfl (by kernel_rfl) ?_)
      refine (refhear_any x dp w3 HV2.out.shut HR.out HIX.out (by rw [HDP.out]; omega)).mono ?_
      rintro e w4 ⟨v, rfl, ⟨y1, y2, y3, rfl, hp4⟩, hb4⟩
      have HON4 := Lib.hid hp4.ones
      obtain ⟨XS, Xb, kb, xb, Xc, kc, xc, rfl, rfl, rfl⟩ := hp4.forms_
      have hbb4 := hb4.alloc hb4.size (.cells #[.string XS, .slice Xb kb xb, .slice Xc kc xc] 35)
      have HYH5 := Lib.hid (old_below HYH2.out hbb4 (row_lt HYH2.out))
      have HYR5 := Lib.hid (old_below HYR2.out hbb4 (row_lt HYR2.out))
      have HP5 := Lib.hid (HP2.out.below hbb4)
      have HZ5 := Lib.hid (old_below HZ2.out hbb4 (row_lt HZ2.out))
      have HV5 := Lib.hid (hp4.alloc (.cells #[.string XS, .slice Xb kb xb, .slice Xc kc xc] 35))
      have HU5 := Lib.hid (heap_alloc_new w4 (.cells #[.string XS, .slice Xb kb xb, .slice Xc kc xc] 35))
      have HB5 := Lib.hid (HB2.out.trans (hbb4.mono (Nat.le_trans HNS.out HSZ2.out)))
      have HP4N : Hid (N + 4 < w4.heap.size) := row_lt (old_below HYR2.out hb4 (row_lt HYR2.out))
      clear hp4 hb4 hbb4 hcv f0 f1 f2 f3 f4
      go_upto_region 29 with (first | refine wpList_store_new rfl 35 _ _ rfl w4 #[.string ⟨#[]⟩, .slice none 0 0, .slice none 0 0] #[.string XS, .slice Xb kb xb, .slice Xc kc xc] rfl rfl (by kernel_rfl) rfl HON4.out ?_)
      generalize w4.alloc (.cells #[.string XS, .slice Xb kb xb, .slice Xc kc xc] 35) = w5 at HYH5 HYR5 HP5 HZ5 HV5 HU5 HB5 ⊢
      generalize w4.heap.size = P4 at HU5 HP4N ⊢
      have HEND := Lib.hid (step_end HP5.out HV5.out HYH5.out HYR5.out HB5.out)
      obtain ⟨a0, a1, a2⟩ := three_cells HZ5.out
      obtain ⟨b0, b1, b2⟩ := three_cells HU5.out
      obtain ⟨p0, p1, p2⟩ := three_cells HYH5.out
      obtain ⟨q0, q1, q2⟩ := three_cells HYR5.out
      have g0 := frozen_of_row w5 (N + 3) 0 _ _ HYH5.out
      have g1 := frozen_of_row w5 (N + 3) 1 _ _ HYH5.out
      have g2 := frozen_of_row w5 (N + 3) 2 _ _ HYH5.out
      have k0 := frozen_of_row w5 (N + 4) 0 _ _ HYR5.out
      have k1 := frozen_of_row w5 (N + 4) 1 _ _ HYR5.out
      have k2 := frozen_of_row w5 (N + 4) 2 _ _ HYR5.out
      have d1 : ¬ N + 1 + 1 + 1 = P2 := by have := HP2N.out; omega
      have d2 : ¬ N + 1 + 1 + 1 = P4 := by have := HP4N.out; omega
      have d3 : ¬ N + 1 + 1 + 1 + 1 = P2 := by have := HP2N.out; omega
      have d4 : ¬ N + 1 + 1 + 1 + 1 = P4 := by have := HP4N.out; omega
      have d5 : ¬ P2 = N + 1 + 1 + 1 := by have := HP2N.out; omega
      have d6 : ¬ P4 = N + 1 + 1 + 1 := by have := HP4N.out; omega
      have d7 : ¬ P2 = N + 1 + 1 + 1 + 1 := by have := HP2N.out; omega
      have d8 : ¬ P4 = N + 1 + 1 + 1 + 1 := by have := HP4N.out; omega
      go_region
      all_goals first
        | (rw [row3 HYH5.out, row3 (w := w5.setRow (N + 3) _) ((setRow_other _ _ _ _ (by omega)).trans HYR5.out)]
           go_wp2
           refine ret_cct (g := N + 3) (g2 := N + 4) rfl rfl rfl (t := 29) (t2 := 35) (fr := (0, 0)) (fr2 := (0, 0)) HEND.out.1.1 Try.underlying29 rfl (by kernel_rfl) HEND.out.1.2.1 Try.underlying35 rfl (by kernel_rfl) rfl ?_
           rw [HSO.out]
           exact ⟨_, _, rfl, HEND.out.1.2.2.1.below (below_drewN' (Below.refl _ _) 1), HEND.out.1.2.2.2.1.below (below_drewN' (Below.refl _ _) 1), below_drewN' HEND.out.1.2.2.2.2 1⟩)
        | (rw [row3 HYR5.out, row3 (w := w5.setRow (N + 4) _) ((setRow_other _ _ _ _ (by omega)).trans HYH5.out)]
           go_wp2
           refine ret_cct (g := N + 3) (g2 := N + 4) rfl rfl rfl (t := 29) (t2 := 35) (fr := (0, 0)) (fr2 := (0, 0)) HEND.out.2.1 Try.underlying29 rfl (by kernel_rfl) HEND.out.2.2.1 Try.underlying35 rfl (by kernel_rfl) rfl ?_
           rw [HSO.out]
           exact ⟨_, _, rfl, HEND.out.2.2.2.1.below (below_drewN' (Below.refl _ _) 1), HEND.out.2.2.2.2.1.below (below_drewN' (Below.refl _ _) 1), below_drewN' HEND.out.2.2.2.2.2 1⟩)
    · have HSO : Hid (stepO 7 x n d true (B, L, D) = ((hearO B D.length x d).1, L, D)) := rfl
      go_wp2_with (refine wpList_load_row rfl 29 _ rfl N rfl 29 #[.slice A1 nb c1, .slice A2 nk c2, .slice A3 nd c3] (0, 0) _ HX.out Try.underlying29 rfl (by kernel_rfl) ?_)
      refine (hear_any x A c m 0 hi d w1 HH.out.shut HR.out HIX.out HDM.out (by omega) HRD.out HHI.out).mono ?_
      rintro e w2 ⟨v, rfl, ⟨z1, z2, z3, rfl, hp2⟩, hb2⟩
      obtain ⟨Ya, la, ca, Yb, lb, cb, Yc, lc, cc, rfl, rfl, rfl⟩ := hp2.forms_
      have hbb2 := hb2.alloc hb2.size (.cells #[.slice Ya la ca, .slice Yb lb cb, .slice Yc lc cc] 29)
      have HON := Lib.hid hp2.ones
      have HXR2 := Lib.hid (old_below HXR.out hbb2 (row_lt HXR.out))
      have HXO2 := Lib.hid (old_below HXO.out hbb2 (row_lt HXO.out))
      have HYH2 := Lib.hid (old_below HYH.out hbb2 (row_lt HYH.out))
      have HYR2 := Lib.hid (old_below HYR.out hbb2 (row_lt HYR.out))
      have HV2 := Lib.hid (HV.out.below hbb2)
      have HP2 := Lib.hid ((hp2.alloc (.cells #[.slice Ya la ca, .slice Yb lb cb, .slice Yc lc cc] 29)).wide (Nat.zero_le _))
      have HZ2 := Lib.hid (heap_alloc_new w2 (.cells #[.slice Ya la ca, .slice Yb lb cb, .slice Yc lc cc] 29))
      have HB2 := Lib.hid (HB1.out.trans (hbb2.mono HNS.out))
      have HRD2 := Lib.hid (HRD.out.below hbb2 HHI.out)
      have HP2N : Hid (N + 4 < w2.heap.size) := row_lt (old_below HYR.out hb2 (row_lt HYR.out))
      have HSZ2 : Hid (w1.heap.size ≤ (w2.alloc (.cells #[.slice Ya la ca, .slice Yb lb cb, .slice Yc lc cc] 29)).heap.size) := hbb2.size
      clear hp2 hb2 hbb2 f0 f1 f2 f3 f4
      go_upto_region 28 with (first | refine wpList_store_new rfl 29 _ _ rfl w2 #[.slice none 0 0, .slice none 0 0, .slice none 0 0] #[.slice Ya la ca, .slice Yb lb cb, .slice Yc lc cc] rfl rfl (by kernel_rfl) rfl HON.out ?_)
      generalize w2.alloc (.cells #[.slice Ya la ca, .slice Yb lb cb, .slice Yc lc cc] 29) = w3 at HXR2 HXO2 HYH2 HYR2 HV2 HP2 HZ2 HB2 HRD2 HSZ2 ⊢
      generalize w2.heap.size = P2 at HZ2 HP2N ⊢
      obtain ⟨f0, f1, f2, f3, f4⟩ := five_cells HXO2.out
      have hcv : (convert 25 9 (.slice A m c)).run Try.prog w3 = .ok (.string ⟨d.toArray⟩) w3 := by
        have := run_text (P := Try.prog) w3 25 9 5 (l := d) c Try.underlying25 Try.underlying5 Try.underlying9 HRD2.out
        rwa [HDM.out] at this
      go_wp2_with (refine wpList_load_row rfl 35 _ rfl (N + 1) rfl 35 #[.string ⟨B.toArray⟩, .slice A4 nk c4, .slice A5 nd c5] (0, 0) _ HXR2.out Try.underlying35 rfl (by kernel_rfl) ?_)
      refine (refhear_any x d w3 HV2.out.shut HR.out HIX.out (by rw [HDM.out]; omega)).mono ?_
      rintro e w4 ⟨v, rfl, ⟨y1, y2, y3, rfl, hp4⟩, hb4⟩
      have HON4 := Lib.hid hp4.ones
      obtain ⟨XS, Xb, kb, xb, Xc, kc, xc, rfl, rfl, rfl⟩ := hp4.forms_
      have hbb4 := hb4.alloc hb4.size (.cells #[.string XS, .slice Xb kb xb, .slice Xc kc xc] 35)
      have HYH5 := Lib.hid (old_below HYH2.out hbb4 (row_lt HYH2.out))
      have HYR5 := Lib.hid (old_below HYR2.out hbb4 (row_lt HYR2.out))
      have HP5 := Lib.hid (HP2.out.below hbb4)
      have HZ5 := Lib.hid (old_below HZ2.out hbb4 (row_lt HZ2.out))
      have HV5 := Lib.hid (hp4.alloc (.cells #[.string XS, .slice Xb kb xb, .slice Xc kc xc] 35))
      have HU5 := Lib.hid (heap_alloc_new w4 (.cells #[.string XS, .slice Xb kb xb, .slice Xc kc xc] 35))
      have HB5 := Lib.hid (HB2.out.trans (hbb4.mono (Nat.le_trans HNS.out HSZ2.out)))
      have HP4N : Hid (N + 4 < w4.heap.size) := row_lt (old_below HYR2.out hb4 (row_lt HYR2.out))
      clear hp4 hb4 hbb4 hcv f0 f1 f2 f3 f4
      go_upto_region 29 with (first | refine wpList_store_new rfl 35 _ _ rfl w4 #[.string ⟨#[]⟩, .slice none 0 0, .slice none 0 0] #[.string XS, .slice Xb kb xb, .slice Xc kc xc] rfl rfl (by kernel_rfl) rfl HON4.out ?_)
      generalize w4.alloc (.cells #[.string XS, .slice Xb kb xb, .slice Xc kc xc] 35) = w5 at HYH5 HYR5 HP5 HZ5 HV5 HU5 HB5 ⊢
      generalize w4.heap.size = P4 at HU5 HP4N ⊢
      have HEND := Lib.hid (step_end HP5.out HV5.out HYH5.out HYR5.out HB5.out)
      obtain ⟨a0, a1, a2⟩ := three_cells HZ5.out
      obtain ⟨b0, b1, b2⟩ := three_cells HU5.out
      obtain ⟨p0, p1, p2⟩ := three_cells HYH5.out
      obtain ⟨q0, q1, q2⟩ := three_cells HYR5.out
      have g0 := frozen_of_row w5 (N + 3) 0 _ _ HYH5.out
      have g1 := frozen_of_row w5 (N + 3) 1 _ _ HYH5.out
      have g2 := frozen_of_row w5 (N + 3) 2 _ _ HYH5.out
      have k0 := frozen_of_row w5 (N + 4) 0 _ _ HYR5.out
      have k1 := frozen_of_row w5 (N + 4) 1 _ _ HYR5.out
      have k2 := frozen_of_row w5 (N + 4) 2 _ _ HYR5.out
      have d1 : ¬ N + 1 + 1 + 1 = P2 := by have := HP2N.out; omega
      have d2 : ¬ N + 1 + 1 + 1 = P4 := by have := HP4N.out; omega
      have d3 : ¬ N + 1 + 1 + 1 + 1 = P2 := by have := HP2N.out; omega
      have d4 : ¬ N + 1 + 1 + 1 + 1 = P4 := by have := HP4N.out; omega
      have d5 : ¬ P2 = N + 1 + 1 + 1 := by have := HP2N.out; omega
      have d6 : ¬ P4 = N + 1 + 1 + 1 := by have := HP4N.out; omega
      have d7 : ¬ P2 = N + 1 + 1 + 1 + 1 := by have := HP2N.out; omega
      have d8 : ¬ P4 = N + 1 + 1 + 1 + 1 := by have := HP4N.out; omega
      go_region
      all_goals first
        | (rw [row3 HYH5.out, row3 (w := w5.setRow (N + 3) _) ((setRow_other _ _ _ _ (by omega)).trans HYR5.out)]
           go_wp2
           refine ret_cct (g := N + 3) (g2 := N + 4) rfl rfl rfl (t := 29) (t2 := 35) (fr := (0, 0)) (fr2 := (0, 0)) HEND.out.1.1 Try.underlying29 rfl (by kernel_rfl) HEND.out.1.2.1 Try.underlying35 rfl (by kernel_rfl) rfl ?_
           rw [HSO.out]
           exact ⟨_, _, rfl, HEND.out.1.2.2.1.below (below_drewN' (Below.refl _ _) 1), HEND.out.1.2.2.2.1.below (below_drewN' (Below.refl _ _) 1), below_drewN' HEND.out.1.2.2.2.2 1⟩)
        | (rw [row3 HYR5.out, row3 (w := w5.setRow (N + 4) _) ((setRow_other _ _ _ _ (by omega)).trans HYH5.out)]
           go_wp2
           refine ret_cct (g := N + 3) (g2 := N + 4) rfl rfl rfl (t := 29) (t2 := 35) (fr := (0, 0)) (fr2 := (0, 0)) HEND.out.2.1 Try.underlying29 rfl (by kernel_rfl) HEND.out.2.2.1 Try.underlying35 rfl (by kernel_rfl) rfl ?_
           rw [HSO.out]
           exact ⟨_, _, rfl, HEND.out.2.2.2.1.below (below_drewN' (Below.refl _ _) 1), HEND.out.2.2.2.2.1.below (below_drewN' (Below.refl _ _) 1), below_drewN' HEND.out.2.2.2.2.2 1⟩)
end Go.Proofs.Ytagajijjcjfopaa
