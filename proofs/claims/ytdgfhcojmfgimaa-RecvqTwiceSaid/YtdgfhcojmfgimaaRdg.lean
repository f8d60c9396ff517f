/-
  recvq.settle: what came with other pieces ahead. Every state and pieces of not too many bytes.
-/
import Derived.Test.YtdgfhcojmfgimaaRdd
import Derived.Test.YtdgfhcojmfgimaaRdn
namespace Go.Proofs.Ytdgfhcojmfgimaa
open Go.RowKit

/-- what came with other pieces ahead -/
def settleQ (q : Rq) : List Pc → Rq
  | [] => q
  | p :: r => if p.seq = q.next then { q with data := q.data ++ p.data, next := addS q.next p.data.length, ahead := r } else if r.length + 1 ≤ 8 then { q with ahead := p :: r } else q
theorem own_tb' {w : World} {base n : Nat} {l : List UInt8} {v : Value} (h : w.ownsRow base 5 1 v n (cells l)) : TB w base l v := by
  have hl := h.1
  rw [cells_length, Nat.mul_one] at hl
  rw [← hl] at h
  exact own_tb h
theorem wpList_slice_eq {P : Program} {w : World} {ops : Array Oper} {rest : List Oper} {o : Oper} {a : Act} {Q : Exit → Act → World → Prop} (hgd : o.guard = none) (t : TypeId) (x lo : Operand) (ho : o.op = .slice t x (some lo) none none) {e : TypeId} (hu : P.underlying t = some (.slice e)) {A : Option Addr} {n c : Nat} (hx : a.eval x = .slice A n c) {z : Value}
    (hr : ∀ W : World, (Instr.slice t (.slice A n c) (some (a.eval lo)) none none).run P W = .ok z W) (h : wpList P ops Q rest (a.put o.dst z) w) : wpList P ops Q (o :: rest) a w :=
  wpList_plain hgd fun K hK => by
    have h1 := run_sliceE (ev := a.eval) (o := o) t x (some lo) none ho hu hx (hr w)
    unfold Oper.wp
    rw [h1]
    exact hK _ _ h
theorem settle_cons (q : Rq) (p : Pc) (r : List Pc) : settleQ q (p :: r) = if p.seq = q.next then { q with data := q.data ++ p.data, next := addS q.next p.data.length, ahead := r } else if r.length + 1 ≤ 8 then { q with ahead := p :: r } else q := rfl
theorem wpList_slice_eq2 {P : Program} {w : World} {ops : Array Oper} {rest : List Oper} {o : Oper} {a : Act} {Q : Exit → Act → World → Prop} (hgd : o.guard = none) (t : TypeId) (x lo : Operand) (ho : o.op = .slice t x (some lo) none none) {e : TypeId} (hu : P.underlying t = some (.slice e)) (A : Option Addr) (n c : Nat) (hx : a.eval x = .slice A n c) (l : Value) (hl : a.eval lo = l) {z : Value}
    (hr : ∀ W : World, (Instr.slice t (.slice A n c) (some l) none none).run P W = .ok z W) (h : wpList P ops Q rest (a.put o.dst z) w) : wpList P ops Q (o :: rest) a w := by
  subst hl
  exact wpList_slice_eq hgd t x lo ho hu hx hr h
def OwnB (lo n : Nat) (xs : List Value) : Pred := fun v w => w.ownsRow lo 5 1 v n xs
theorem ownb_mono (lo n : Nat) (xs : List Value) : Mono (OwnB lo n xs) := fun _ _ _ hb h => ownk_below h hb (Nat.le_refl _)
theorem grown_two {w w' w2 : World} {row : Option Nat} (h : w.grownBy w' row) (h2 : w'.grownBy w2 row) : w.grownBy w2 row :=
  ⟨h2.os.trans h.os, h2.tape.trans h.tape, h2.output.trans h.output, Nat.le_trans h.size h2.size, fun k hk hx => (h2.block k (Nat.lt_of_lt_of_le hk h.size) hx).trans (h.block k hk hx)⟩
theorem grown_set {w w' : World} {row : Option Nat} {g : Nat} (h : w.grownBy w' row) (hg : w.heap.size ≤ g) (cs : Array Value) : w.grownBy (w'.setRow g cs) row :=
  ⟨h.os, h.tape, h.output, by simp; exact h.size, fun k hk hx => (setRow_other w' g k cs (by omega)).trans (h.block k hk hx)⟩
theorem grown_of {w w' : World} {row : Option Nat} (h : Below w.heap.size w w') : w.grownBy w' row := ⟨h.os, h.tape, h.output, h.size, fun k hk _ => h.block k hk⟩
theorem TB.grown {w w' : World} {lo : Nat} {l : List UInt8} {v : Value} {row : Option Nat} (h : TB w lo l v) (hg : w.grownBy w' row) (hr : ∀ g, row = some g → g < lo) : TB w' lo l v :=
  h.keep fun _ hA => hA.keep fun g C hl hC => hg.block g (row_lt hC) fun e => by have := hr g e.symm; omega
theorem PcT.grown {w w' : World} {lo : Nat} {cs : List Value} {p : Pc} {row : Option Nat} (h : PcT lo w cs p) (hg : w.grownBy w' row) (hr : ∀ g, row = some g → g < lo) : PcT lo w' cs p := by
  obtain ⟨v, e, h1⟩ := h
  exact ⟨v, e, h1.grown hg hr⟩
theorem PcsT.grown {w w' : World} {lo : Nat} {v : Value} {ps : List Pc} {row : Option Nat} (h : PcsT lo w v ps) (hg : w.grownBy w' row) (hr : ∀ g, row = some g → g < lo) : PcsT lo w' v ps := by
  obtain ⟨A, c, xs, e, h1, h2, h3⟩ := h
  exact ⟨A, c, xs, e, h1.keep fun g C hl hC => hg.block g (row_lt hC) fun e => by have := hr g e.symm; omega, h2.imp fun _ _ _ h => h.grown hg hr, h3⟩
/-- all pieces but the first -/
theorem pcs_tail {w : World} {lo c : Nat} {ad : Addr} {xs : List Value} {p : Pc} {r : List Pc} (ht : Tr w lo 55 (some ad) xs) (hr : RowOf 2 (PcT lo w) xs (p :: r)) (hc : r.length + 1 ≤ c) (hm : c ≤ maxLen) : PcsT lo w (.slice (if c = 1 then some ad else (some ad : Option Addr).map (·.add (1 * 2))) (r.length + 1 - 1) (c - 1)) r := by
  by_cases h1 : c = 1
  · have hr0 : r = [] := List.eq_nil_of_length_eq_zero (by omega)
    subst hr0
    rw [if_pos h1]
    exact ⟨some ad, c - 1, [], by simp, Tr.nil, RowOf.nil, Nat.zero_le _, by omega, fun h => by cases h⟩
  · rw [if_neg h1]
    have hx := hr.1
    simp only [List.length_cons] at hx
    have h2 := Tr.sub ht 2 (xs.length - 2)
    rw [List.take_of_length_le (by rw [List.length_drop]; omega)] at h2
    have h3 := hr.drop 1
    rw [Nat.one_mul, List.drop_succ_cons, List.drop_zero] at h3
    exact ⟨_, c - 1, xs.drop 2, rfl, h2, h3, by omega, by omega, fun h => by cases h⟩
set_option maxRecDepth 100000 in
set_option maxHeartbeats 4000000 in
theorem settle_any (lo lo2 : Nat) (q : Rq) (vD vA v : Value) (p : Pc) (r : List Pc) (w : World) (hD : w.ownsRow lo 5 1 vD q.data.length (cells q.data)) (hDl : ∀ g, vD.ownBlock = some g → g < lo2) (hA : PcsT lo2 w vA q.ahead) (hv : PcsT lo2 w v (p :: r)) (hlo : lo ≤ lo2) (hl2 : lo2 ≤ w.heap.size) (hdl : q.data.length ≤ 1000) (hpl : 0 < p.data.length) (hpl2 : p.data.length ≤ 1000) (hrl : r.length ≤ 999) :
    Calls Try.prog 27 #[.agg (rqC q vD vA), v] w fun e w' => ∃ cs' : Array Value, e = .returned (.agg cs') ∧ Rvs w' (fun b => lo ≤ b) cs'.toList (rqD (settleQ q (p :: r))) ∧ w.grownBy w' vD.ownBlock := by
  obtain ⟨A, c, xs, rfl, htr, hrow, hnc, hcm, hA0⟩ := hv
  obtain ⟨n, hn⟩ : ∃ n, (p :: r).length = n := ⟨_, rfl⟩
  rw [hn] at hnc ⊢
  have hnp : 0 < n := by rw [← hn]; exact Nat.succ_pos _
  have hn9 : n ≤ 1000 := by rw [← hn, List.length_cons]; omega
  have HN : Hid (r.length + 1 = n) := hn
  obtain ⟨ad, rfl⟩ : ∃ ad, A = some ad := by
    obtain ⟨ad, e, _⟩ := htr.rd 0 _ (List.getElem?_eq_getElem (by rw [hrow.1, List.length_cons]; omega))
    exact ⟨ad, e⟩
  obtain ⟨vx, hxx, A2, c2, rfl, ht2, hs2⟩ := hrow.2 0 p rfl
  obtain ⟨ad2, rfl⟩ : ∃ ad, A2 = some ad := by
    obtain ⟨ad, e, _⟩ := ht2.rd 0 _ (List.getElem?_eq_getElem (by rw [cells_length]; omega))
    exact ⟨ad, e⟩
  obtain ⟨m2, hm2⟩ : ∃ m2, p.data.length = m2 := ⟨_, rfl⟩
  obtain ⟨s0, hs0⟩ : ∃ s0, p.seq = s0 := ⟨_, rfl⟩
  rw [hm2] at hxx hpl hpl2
  rw [hs0] at hxx
  have hX0 : xs[0]? = some (.int .u32 s0) := by have := congrArg (fun l => l[0]?) hxx; simpa [List.getElem?_drop] using this
  have hX1 : xs[1]? = some (.slice (some ad2) m2 c2) := by have := congrArg (fun l => l[1]?) hxx; simpa [List.getElem?_drop] using this
  have HX10 := Lib.hid hX0
  have HX11 := Lib.hid hX1
  have HM2 := Lib.hid hm2
  have HS0 := Lib.hid hs0
  have hc63 : c ≤ 9223372036854775807 := by unfold maxLen at hcm; omega
  have hc263 : c2 ≤ 9223372036854775807 := by have := hs2.2.1; unfold maxLen at this; omega
  have hm2c : m2 ≤ c2 := by have := hs2.1; omega
  have HCM := Lib.hid hcm
  have HDL := Lib.hid hDl
  have HLO := Lib.hid hlo
  have HL2 := Lib.hid hl2
  have HD0 := Lib.hid hD
  have HA0 := Lib.hid hA
  have HT0 := Lib.hid htr
  have HRO0 := Lib.hid hrow
  have hv1 : vA.oneCell' = true := hA.one
  have HDO : Hid (vD.oneCell' = true) := (own_tb hD).one
  clear hD hA htr hrow hA0 hxx ht2 hs2 hX0 hX1 hm2 hs0 hDl hlo hl2 hcm
  obtain ⟨w1, hw1⟩ : ∃ w1, (w.alloc (.cells (rqC q vD vA) 29)).alloc (.cells Zrq 29) = w1 := ⟨_, rfl⟩
  have HB : Hid (Below w.heap.size w w1) := by rw [← hw1]; exact ((Below.refl _ _).alloc (Nat.le_refl _) _).alloc (by simp) _
  have HX : Hid (w1.heap[w.heap.size]? = some (.cells (rqC q vD vA) 29 (0, 0))) := by rw [← hw1]; exact old_alloc (heap_alloc_new w _) _
  have HZ : Hid (w1.heap[w.heap.size + 1]? = some (.cells Zrq 29 (0, 0))) := by rw [← hw1]; exact new_at1 w _ _
  have HS1 : Hid (w1.heap.size = w.heap.size + 2) := by show _ = _; rw [← hw1]; simp
  have HW := Lib.hid hw1
  clear hw1
  go_enter Try.func27, Try.ntmps27
  go_upto_region 1 with (fail)
  change Code.wp _ _ _ _ ((w.alloc (.cells (rqC q vD vA) 29)).alloc (.cells Zrq 29))
  rw [HW.out]
  clear HW
  have H9 : Hid (∀ w', Reg w1 w' → w'.cell? ad = some (.int .u32 s0)) := fun w' hr => by
    obtain ⟨ad', e, _, _, hc⟩ := (HT0.out.rd.below (HB.out.trans ((reg_below hr).mono HB.out.size)) (Nat.le_refl _)) 0 _ HX10.out
    cases e
    exact hc
  have H11 := Lib.hid (var_cell HX.out 0 (v := .int .u32 q.next) rfl)
  have HBS : Hid (Below w1.heap.size w1 w1) := Below.refl _ _
  refine wp_region_quiet_below (by kernel_rfl) (by kernel_rfl) ?_
  (first | go_big_quiet_step (fail) | quiet_step (fail))
  (first | go_big_quiet_step (fail) | quiet_step (fail))
  (first | go_big_quiet_step (fail) | quiet_step (fail))
  (refine wpQuiet_step (fun K hK => ?_); refine quiet_load_cell (by kernel_rfl) 22 _ rfl ad (by first | rfl | (simp [Act.eval, Addr.add_mid])) (.int .u32 s0) _ H9.out Try.underlying22 rfl ?_; refine hK _ ?_; clear hK K; go_frame)
  (first | go_big_quiet_step (fail) | quiet_step (fail))
  (refine wpQuiet_step (fun K hK => ?_); refine quiet_load_cell (by kernel_rfl) 22 _ rfl ((⟨w.heap.size, 0, none⟩ : Addr).add 0) (by first | rfl | (simp [Act.eval, Addr.add_mid])) (.int .u32 q.next) _ H11.out Try.underlying22 rfl ?_; refine hK _ ?_; clear hK K; go_frame)
  (first | go_big_quiet_step (fail) | quiet_step (fail))
  (first | go_big_quiet_step (fail) | quiet_step (fail))
  refine wpQuiet_nil ?_
  intro w9 hw9
  obtain ⟨⟨dq, osq⟩, rfl⟩ := hw9
  have HB12 := Lib.hid ((HBS.out).trans ((below_regrown w1 dq osq).mono (HBS.out).size))
  generalize Sort.grow (redrawn w1 dq) osq = w2 at *
  have HX2 := Lib.hid (old_below HX.out HB12.out (row_lt HX.out))
  have HZ2 := Lib.hid (old_below HZ.out HB12.out (row_lt HZ.out))
  have HB2 := Lib.hid (HB.out.trans (HB12.out.mono HB.out.size))
  have HG2 : Hid (w.grownBy w2 vD.ownBlock) := grown_of HB2.out
  have HD2 := Lib.hid (ownk_below HD0.out HB2.out (Nat.le_refl _))
  have HT2 := Lib.hid (HT0.out.below HB2.out (Nat.le_refl _))
  have HRO2 : Hid (RowOf 2 (PcT lo2 w2) xs (p :: r)) := HRO0.out.imp fun _ _ _ hp => hp.keeps (Keeps.below HB2.out (Nat.le_refl _))
  clear HX HZ HB HB12 HBS H9 H11 HS1 HT0 HRO0 HB2
  by_cases he : s0 = q.next
  · have hb : (s0 == q.next) = true := by simp [he]
    have HQ : Hid (settleQ q (p :: r) = { q with data := q.data ++ p.data, next := addS q.next m2, ahead := r }) := by
      show _ = _
      rw [settle_cons, HS0.out, if_pos he, HM2.out]
    clear he
    go_upto_region 2 with (fail)
    apply wp_region_relyG [6, 8] (fun L w' => w.grownBy w' vD.ownBlock ∧ Tr w' lo2 55 (some ad) xs ∧ RowOf 2 (PcT lo2 w') xs (p :: r) ∧ w'.heap[w.heap.size + 1]? = some (.cells Zrq 29 (0, 0)) ∧ (L 6 = false → w'.ownsRow lo 5 1 vD q.data.length (cells q.data)) ∧ (L 8 = false → w'.heap[w.heap.size]? = some (.cells (rqC q vD vA) 29 (0, 0))) ∧ (L 8 = true → ∃ v', w'.heap[w.heap.size]? = some (.cells (rqC q v' vA) 29 (0, 0)) ∧ w'.ownsRow lo 5 1 v' (q.data.length + m2) (cells (q.data ++ p.data)))) (RL [Is _, Is vD, Is _, Is (.pointer (some ad)), Is (.pointer (some (ad.add 1))), Is (.slice (some ad2) m2 c2), OwnB lo (q.data.length + m2) (cells (q.data ++ p.data)), Is _, Any]) [false, false, false, false, false, false, false, false, false, false, false, false, false, true, true, true, true, true, true, true, true, false, false, false, false, false, false, false, false, false, false, false, false, false, false, false, false, false, false, false]
    · kernel_rfl
    · kernel_rfl
    · kernel_rfl
    · refine ⟨?_, ?_, ?_, ?_, ?_, ?_, ?_, ?_, ?_, trivial⟩
      · intro L ev w' hC hL hx K hK
        have e2 : ev (.tmp 2) = _ := hx.base 2 (by kernel_rfl)
        have HK := Lib.hid hK
        have HC := Lib.hid hC
        have HL := Lib.hid hL
        have HX6 := Lib.hid hx
        have hc := hx.cst
        skip
        clear hx hK hC hL
        unfold Run
        simp [execOp, Upon, go_sem, *]
        exact HK.out _ _ (.inl ⟨Below.refl _ _, by decide⟩) rfl
      · intro L ev w' hC hL hx K hK
        have e13 := hx.held 0 _ rfl (by kernel_rfl)
        change ev (.tmp 13) = _ at e13
        have HK := Lib.hid hK
        have HC := Lib.hid hC
        have HL := Lib.hid hL
        have HX6 := Lib.hid hx
        have hc := hx.cst
        skip
        clear hx hK hC hL
        have n8 : L 8 = false := Bool.eq_false_iff.2 fun h => by
          have h1 := HX6.out.closed 8 _ 6 rfl h (by kernel_rfl)
          have h2 := HX6.out.closed 6 _ 1 rfl h1 (by kernel_rfl)
          rw [HL.out] at h2
          cases h2
        have c1 := cell_of_row _ _ 1 _ _ _ (HC.out.2.2.2.2.2.1 n8)
        rw [show (rqC q vD vA)[1]? = some vD from rfl] at c1
        clear n8
        unfold Run
        simp [execOp, Upon, go_sem, *]
        exact HK.out _ _ (.inl ⟨Below.refl _ _, by decide⟩) rfl
      · intro L ev w' hC hL hx K hK
        have e1 : ev (.tmp 1) = _ := hx.base 1 (by kernel_rfl)
        have HK := Lib.hid hK
        have HC := Lib.hid hC
        have HL := Lib.hid hL
        have HX6 := Lib.hid hx
        have hc := hx.cst
        skip
        clear hx hK hC hL
        unfold Run
        simp [execOp, Upon, go_sem, *]
        exact HK.out _ _ (.inl ⟨Below.refl _ _, by decide⟩) rfl
      · intro L ev w' hC hL hx K hK
        have e15 := hx.held 2 _ rfl (by kernel_rfl)
        change ev (.tmp 15) = _ at e15
        have HK := Lib.hid hK
        have HC := Lib.hid hC
        have HL := Lib.hid hL
        have HX6 := Lib.hid hx
        have hc := hx.cst
        skip
        clear hx hK hC hL
        unfold Run
        have q15 : ev (.tmp 15) = .slice (some ad) n c := e15
        rw [run_indexE 27 _ _ rfl Try.underlying27 (size := 2) (j := 0) (by kernel_rfl) q15 (hc (.int .i64 0)) (by omega)]
        exact HK.out _ _ (.inl ⟨Below.refl _ _, by decide⟩) rfl
      · intro L ev w' hC hL hx K hK
        have e16 := hx.held 3 _ rfl (by kernel_rfl)
        change ev (.tmp 16) = _ at e16
        have HK := Lib.hid hK
        have HC := Lib.hid hC
        have HL := Lib.hid hL
        have HX6 := Lib.hid hx
        have hc := hx.cst
        skip
        clear hx hK hC hL
        unfold Run
        simp [execOp, Upon, go_sem, *]
        exact HK.out _ _ (.inl ⟨Below.refl _ _, by decide⟩) rfl
      · intro L ev w' hC hL hx K hK
        have e17 := hx.held 4 _ rfl (by kernel_rfl)
        change ev (.tmp 17) = _ at e17
        have HK := Lib.hid hK
        have HC := Lib.hid hC
        have HL := Lib.hid hL
        have HX6 := Lib.hid hx
        have hc := hx.cst
        skip
        clear hx hK hC hL
        have c1 : w'.cell? ⟨ad.block, ad.off + 1, none⟩ = some (.slice (some ad2) m2 c2) := by
          obtain ⟨ad', e, _, _, hc⟩ := HC.out.2.1.rd 1 _ HX11.out
          cases e
          exact hc
        unfold Run
        simp [execOp, Upon, go_sem, *]
        exact HK.out _ _ (.inl ⟨Below.refl _ _, by decide⟩) rfl
      · intro L ev w' hC hL hx K hK
        have e14 := hx.held 1 _ rfl (by kernel_rfl)
        have e18 := hx.held 5 _ rfl (by kernel_rfl)
        change ev (.tmp 14) = _ at e14
        change ev (.tmp 18) = _ at e18
        have HK := Lib.hid hK
        have HC := Lib.hid hC
        have HL := Lib.hid hL
        have HX6 := Lib.hid hx
        have hc := hx.cst
        skip
        clear hx hK hC hL
        have n8 : L 8 = false := Bool.eq_false_iff.2 fun h => by
          have h1 := HX6.out.closed 8 _ 6 rfl h (by kernel_rfl)
          rw [HL.out] at h1
          cases h1
        have hown := HC.out.2.2.2.2.1 HL.out
        obtain ⟨i0, hi0, hz0, hz1, hz2⟩ := u8_parts
        have hz3 : (Value.int .u8 0).cells.size = 1 := rfl
        obtain ⟨vx, hxx, A9, c9, hv9, ht9, hs9⟩ := HC.out.2.2.1.2 0 p rfl
        have hX1 : vx = .slice (some ad2) m2 c2 := by
          have h0 := congrArg (fun l => l[1]?) hxx
          have h1 := HX11.out
          simp  at h0
          rw [h0] at h1
          injection h1
        rw [hX1] at hv9
        injection hv9 with a1 a2 a3
        subst a1
        obtain ⟨v', w2, hrun, r1, r2, -⟩ := run_append_own (P := Try.prog) w' lo 26 26 5 i0 (.int .u8 0) 1 1 Try.underlying26 hi0 hz0 hz1 hz2 hz3 (by omega) vD q.data.length (cells q.data) hown ad2 m2 c2 (cells p.data) (by rw [cells_length, HM2.out, Nat.mul_one]) (fun j u hj => by
          obtain ⟨ad', e, _, _, hc⟩ := ht9.rd j u hj
          cases e
          exact hc) (cells_one _) (by unfold maxLen; omega) (by omega) (Nat.le_trans HLO.out (Nat.le_trans HL2.out HC.out.1.size))
        have HC9 := Lib.hid HC.out
        have HR1 : Hid (w2.ownsRow lo 5 1 v' (q.data.length + m2) (cells (q.data ++ p.data))) := by rw [cells_append]; exact r1
        have HR2 := Lib.hid r2
        have HN8 := Lib.hid n8
        clear r1 r2 hown hi0 hz0 hz1 hz2 hz3 hxx ht9 hs9 n8
        unfold Run
        rw [run_appendE _ _ 26 rfl e14 e18 hrun]
        refine HK.out _ _ (.inr ⟨⟨grown_two HC9.out.1 HR2.out, HC9.out.2.1.keep fun g C hg hC => HR2.out.block g (row_lt hC) fun e => by have := HDL.out g e.symm; omega, HC9.out.2.2.1.imp fun _ _ _ hp => hp.grown HR2.out HDL.out, ?_, fun h => by simp [upd] at h, fun h => ?_, fun h => ?_⟩, fun j hj hlj u hr => ?_⟩) HR1.out
        · exact (HR2.out.block _ (row_lt HC9.out.2.2.2.1) fun e => by have := HDL.out _ e.symm; have := HL2.out; omega).trans HC9.out.2.2.2.1
        · exact (HR2.out.block _ (row_lt (HC9.out.2.2.2.2.2.1 HN8.out)) fun e => by have := HDL.out _ e.symm; have := HL2.out; omega).trans (HC9.out.2.2.2.2.2.1 HN8.out)
        · simp [upd] at h
          rw [HN8.out] at h
          cases h
        · rcases j with _ | _ | _ | _ | _ | _ | _ | _ | _ | j
          · exact hr
          · exact hr
          · exact hr
          · exact hr
          · exact hr
          · exact hr
          · exact absurd rfl hj
          · exact hr
          · exact trivial
          · exact trivial
      · intro L ev w' hC hL hx K hK
        have e2 : ev (.tmp 2) = _ := hx.base 2 (by kernel_rfl)
        have HK := Lib.hid hK
        have HC := Lib.hid hC
        have HL := Lib.hid hL
        have HX6 := Lib.hid hx
        have hc := hx.cst
        skip
        clear hx hK hC hL
        unfold Run
        simp [execOp, Upon, go_sem, *]
        exact HK.out _ _ (.inl ⟨Below.refl _ _, by decide⟩) rfl
      · intro L ev w' hC hL hx K hK
        have e19 := hx.held 6 _ rfl (by kernel_rfl)
        have e20 := hx.held 7 _ rfl (by kernel_rfl)
        change (OwnB lo (q.data.length + m2) (cells (q.data ++ p.data)) : Pred) (ev (.tmp 19)) w' at e19
        change ev (.tmp 20) = _ at e20
        have HK := Lib.hid hK
        have HC := Lib.hid hC
        have HL := Lib.hid hL
        have HX6 := Lib.hid hx
        have hc := hx.cst
        skip
        clear hx hK hC hL
        have hown := e19
        obtain ⟨A5, c5, q19, -, -, -⟩ := ownk_form hown
        have hgb := HC.out.2.2.2.2.2.1 HL.out
        have hrun := run_storeVar_fld (P := Try.prog) w' w.heap.size 1 29 26 (rqC q vD vA) (.slice A5 (q.data.length + m2) c5) hgb (by show 1 < 6; omega) (by kernel_rfl) rfl
        rw [q19] at hown
        have HO9 := Lib.hid hown
        have HC9 := Lib.hid HC.out
        have HKP : Hid (Keeps w' (w'.setRow w.heap.size ((rqC q vD vA).setIfInBounds 1 (.slice A5 (q.data.length + m2) c5)))) := Keeps.other hgb (by decide) fun j hj => setRow_other _ _ _ _ hj
        have HGB := Lib.hid hgb
        clear hown hgb
        unfold Run
        rw [run_storeE 26 _ _ rfl e20 q19 hrun]
        refine HK.out _ _ (.inr ⟨⟨grown_set HC9.out.1 (Nat.le_refl _) _, HC9.out.2.1.setRow HGB.out (by decide) _, HC9.out.2.2.1.imp fun _ _ _ hp => hp.keeps HKP.out, (setRow_other _ _ _ _ (by omega)).trans HC9.out.2.2.2.1, fun h => ownb_keeps (.inl rfl) (HC9.out.2.2.2.2.1 (by simpa [upd] using h)) HKP.out, fun h => by simp [upd] at h, fun _ => ⟨_, setRow_heap _ _ _ _ _ _ HGB.out, ownb_keeps (.inl rfl) HO9.out HKP.out⟩⟩, fun j hj hlj u hr => ?_⟩) trivial
        · rcases j with _ | _ | _ | _ | _ | _ | _ | _ | _ | j
          · exact hr
          · exact hr
          · exact hr
          · exact hr
          · exact hr
          · exact hr
          · exact ownb_keeps (.inl rfl) hr HKP.out
          · exact hr
          · exact absurd rfl hj
          · exact trivial
    · exact rl_mono ⟨is_mono _, is_mono _, is_mono _, is_mono _, is_mono _, is_mono _, ownb_mono _ _ _, is_mono _, any_mono, trivial⟩
    · exact fun L L' w1 he h => ⟨h.1, h.2.1, h.2.2.1, h.2.2.2.1, fun hl => h.2.2.2.2.1 ((he 6 (by simp)).trans hl), fun hl => h.2.2.2.2.2.1 ((he 8 (by simp)).trans hl), fun hl => h.2.2.2.2.2.2 ((he 8 (by simp)).trans hl)⟩
    · exact fun L w1 w2 hb h => ⟨grown_below h.1 hb, h.2.1.below hb (Nat.le_refl _), h.2.2.1.imp fun _ _ _ hp => hp.keeps (Keeps.below hb (Nat.le_refl _)), old_below h.2.2.2.1 hb (row_lt h.2.2.2.1), fun hl => ownk_below (h.2.2.2.2.1 hl) hb (Nat.le_refl _), fun hl => old_below (h.2.2.2.2.2.1 hl) hb (row_lt (h.2.2.2.2.2.1 hl)), fun hl => by obtain ⟨v', h1, h2⟩ := h.2.2.2.2.2.2 hl; exact ⟨v', old_below h1 hb (row_lt h1), ownk_below h2 hb (Nat.le_refl _)⟩⟩
    · exact ⟨HG2.out, HT2.out, HRO2.out, HZ2.out, fun _ => HD2.out, fun _ => HX2.out, (fun h => by cases h)⟩
    · simp
    intro us w3 hG hH
    obtain ⟨-, -, -, -, -, -, -, -, -, -⟩ := hH
    simp only [fillM]
    generalize us 13 = v13
    generalize us 14 = v14
    generalize us 15 = v15
    generalize us 16 = v16
    generalize us 17 = v17
    generalize us 18 = v18
    generalize us 19 = v19
    generalize us 20 = v20
    obtain ⟨g1, g2, g3, g4, -, -, g5⟩ := hG
    obtain ⟨v3, g6, g7⟩ := g5 rfl
    have HG3 := Lib.hid g1
    have HT3 := Lib.hid g2
    have HRO3 := Lib.hid g3
    have HZ3 := Lib.hid g4
    have HX3 := Lib.hid g6
    have HO3 := Lib.hid g7
    clear g1 g2 g3 g4 g5 g6 g7 HG2 HT2 HRO2 HZ2 HX2 HD2
    go_upto_region 3 with (fail)
    apply wp_region_relyG [9] (fun L w' => w.grownBy w' vD.ownBlock ∧ Tr w' lo2 55 (some ad) xs ∧ RowOf 2 (PcT lo2 w') xs (p :: r) ∧ w'.heap[w.heap.size + 1]? = some (.cells Zrq 29 (0, 0)) ∧ w'.ownsRow lo 5 1 v3 (q.data.length + m2) (cells (q.data ++ p.data)) ∧ w'.heap[w.heap.size]? = some (.cells (if L 9 then rqC { q with next := addS q.next m2 } v3 vA else rqC q v3 vA) 29 (0, 0))) (RL [Is _, Is (.int .u32 q.next), Is _, Is (.pointer (some ad)), Is (.pointer (some (ad.add 1))), Is (.slice (some ad2) m2 c2), Is _, Is (.int .u32 (addS q.next m2)), Is _, Any]) [false, false, false, false, false, false, false, false, false, false, false, false, false, false, false, false, false, false, false, false, false, true, true, true, true, true, true, true, true, true, false, false, false, false, false, false, false, false, false, false]
    · kernel_rfl
    · kernel_rfl
    · kernel_rfl
    · refine ⟨?_, ?_, ?_, ?_, ?_, ?_, ?_, ?_, ?_, ?_, trivial⟩
      · intro L ev w' hC hL hx K hK
        have e2 : ev (.tmp 2) = _ := hx.base 2 (by kernel_rfl)
        have HK := Lib.hid hK
        have HC := Lib.hid hC
        have HL := Lib.hid hL
        have HX6 := Lib.hid hx
        have hc := hx.cst
        skip
        clear hx hK hC hL
        unfold Run
        simp [execOp, Upon, go_sem, *]
        exact HK.out _ _ (.inl ⟨Below.refl _ _, by decide⟩) rfl
      · intro L ev w' hC hL hx K hK
        have e21 := hx.held 0 _ rfl (by kernel_rfl)
        change ev (.tmp 21) = _ at e21
        have HK := Lib.hid hK
        have HC := Lib.hid hC
        have HL := Lib.hid hL
        have HX6 := Lib.hid hx
        have hc := hx.cst
        skip
        clear hx hK hC hL
        have n9 : L 9 = false := Bool.eq_false_iff.2 fun h => by
          have h1 := HX6.out.closed 9 _ 7 rfl h (by kernel_rfl)
          have h2 := HX6.out.closed 7 _ 1 rfl h1 (by kernel_rfl)
          rw [HL.out] at h2
          cases h2
        have hgb := HC.out.2.2.2.2.2
        rw [n9] at hgb
        have c0 := cell_of_row _ _ 0 _ _ _ hgb
        rw [show (if false = true then rqC { q with next := addS q.next m2 } v3 vA else rqC q v3 vA)[0]? = some (.int .u32 q.next) from rfl] at c0
        clear n9 hgb
        unfold Run
        simp [execOp, Upon, go_sem, *]
        exact HK.out _ _ (.inl ⟨Below.refl _ _, by decide⟩) rfl
      · intro L ev w' hC hL hx K hK
        have e1 : ev (.tmp 1) = _ := hx.base 1 (by kernel_rfl)
        have HK := Lib.hid hK
        have HC := Lib.hid hC
        have HL := Lib.hid hL
        have HX6 := Lib.hid hx
        have hc := hx.cst
        skip
        clear hx hK hC hL
        unfold Run
        simp [execOp, Upon, go_sem, *]
        exact HK.out _ _ (.inl ⟨Below.refl _ _, by decide⟩) rfl
      · intro L ev w' hC hL hx K hK
        have e23 := hx.held 2 _ rfl (by kernel_rfl)
        change ev (.tmp 23) = _ at e23
        have HK := Lib.hid hK
        have HC := Lib.hid hC
        have HL := Lib.hid hL
        have HX6 := Lib.hid hx
        have hc := hx.cst
        skip
        clear hx hK hC hL
        unfold Run
        have q23 : ev (.tmp 23) = .slice (some ad) n c := e23
        rw [run_indexE 27 _ _ rfl Try.underlying27 (size := 2) (j := 0) (by kernel_rfl) q23 (hc (.int .i64 0)) (by omega)]
        exact HK.out _ _ (.inl ⟨Below.refl _ _, by decide⟩) rfl
      · intro L ev w' hC hL hx K hK
        have e24 := hx.held 3 _ rfl (by kernel_rfl)
        change ev (.tmp 24) = _ at e24
        have HK := Lib.hid hK
        have HC := Lib.hid hC
        have HL := Lib.hid hL
        have HX6 := Lib.hid hx
        have hc := hx.cst
        skip
        clear hx hK hC hL
        unfold Run
        simp [execOp, Upon, go_sem, *]
        exact HK.out _ _ (.inl ⟨Below.refl _ _, by decide⟩) rfl
      · intro L ev w' hC hL hx K hK
        have e25 := hx.held 4 _ rfl (by kernel_rfl)
        change ev (.tmp 25) = _ at e25
        have HK := Lib.hid hK
        have HC := Lib.hid hC
        have HL := Lib.hid hL
        have HX6 := Lib.hid hx
        have hc := hx.cst
        skip
        clear hx hK hC hL
        have c1 : w'.cell? ⟨ad.block, ad.off + 1, none⟩ = some (.slice (some ad2) m2 c2) := by
          obtain ⟨ad', e, _, _, hc⟩ := HC.out.2.1.rd 1 _ HX11.out
          cases e
          exact hc
        unfold Run
        simp [execOp, Upon, go_sem, *]
        exact HK.out _ _ (.inl ⟨Below.refl _ _, by decide⟩) rfl
      · intro L ev w' hC hL hx K hK
        have e26 := hx.held 5 _ rfl (by kernel_rfl)
        change ev (.tmp 26) = _ at e26
        have HK := Lib.hid hK
        have HC := Lib.hid hC
        have HL := Lib.hid hL
        have HX6 := Lib.hid hx
        have hc := hx.cst
        skip
        clear hx hK hC hL
        unfold Run
        rw [run_lenE _ 26 5 Try.underlying26 rfl e26]
        exact HK.out _ _ (.inl ⟨Below.refl _ _, by decide⟩) rfl
      · intro L ev w' hC hL hx K hK
        have e22 := hx.held 1 _ rfl (by kernel_rfl)
        have e27 := hx.held 6 _ rfl (by kernel_rfl)
        change ev (.tmp 22) = _ at e22
        change ev (.tmp 27) = _ at e27
        have HK := Lib.hid hK
        have HC := Lib.hid hC
        have HL := Lib.hid hL
        have HX6 := Lib.hid hx
        have hc := hx.cst
        have hf := hx.fn
        clear hx hK hC hL
        unfold Run
        simp [execOp, Upon, go_sem, *]
        refine (seqadd_any _ _ _).mono ?_
        rintro e w2 ⟨rfl, rfl⟩
        exact ⟨_, rfl, HK.out _ _ (.inl ⟨Below.refl _ _, by decide⟩) rfl⟩
      · intro L ev w' hC hL hx K hK
        have e2 : ev (.tmp 2) = _ := hx.base 2 (by kernel_rfl)
        have HK := Lib.hid hK
        have HC := Lib.hid hC
        have HL := Lib.hid hL
        have HX6 := Lib.hid hx
        have hc := hx.cst
        skip
        clear hx hK hC hL
        unfold Run
        simp [execOp, Upon, go_sem, *]
        exact HK.out _ _ (.inl ⟨Below.refl _ _, by decide⟩) rfl
      · intro L ev w' hC hL hx K hK
        have e28 := hx.held 7 _ rfl (by kernel_rfl)
        have e29 := hx.held 8 _ rfl (by kernel_rfl)
        change ev (.tmp 28) = _ at e28
        change ev (.tmp 29) = _ at e29
        have HK := Lib.hid hK
        have HC := Lib.hid hC
        have HL := Lib.hid hL
        have HX6 := Lib.hid hx
        have hc := hx.cst
        skip
        clear hx hK hC hL
        have hgb := HC.out.2.2.2.2.2
        rw [HL.out] at hgb
        have hgb : w'.heap[w.heap.size]? = some (.cells (rqC q v3 vA) 29 (0, 0)) := hgb
        have hrun := run_storeVar_fld (P := Try.prog) w' w.heap.size 0 29 22 (rqC q v3 vA) (.int .u32 (addS q.next m2)) hgb (by show 0 < 6; omega) (by kernel_rfl) rfl
        have HC9 := Lib.hid HC.out
        have HKP : Hid (Keeps w' (w'.setRow w.heap.size ((rqC q v3 vA).setIfInBounds 0 (.int .u32 (addS q.next m2))))) := Keeps.other hgb (by decide) fun j hj => setRow_other _ _ _ _ hj
        have HGB := Lib.hid hgb
        clear hgb
        unfold Run
        rw [run_storeE 22 _ _ rfl e29 e28 hrun]
        refine HK.out _ _ (.inr ⟨⟨grown_set HC9.out.1 (Nat.le_refl _) _, HC9.out.2.1.setRow HGB.out (by decide) _, HC9.out.2.2.1.imp fun _ _ _ hp => hp.keeps HKP.out, (setRow_other _ _ _ _ (by omega)).trans HC9.out.2.2.2.1, ownb_keeps (.inl rfl) HC9.out.2.2.2.2.1 HKP.out, setRow_heap _ _ _ _ _ _ HGB.out⟩, fun j hj hlj u hr => ?_⟩) trivial
        · rcases j with _ | _ | _ | _ | _ | _ | _ | _ | _ | _ | j
          · exact hr
          · exact hr
          · exact hr
          · exact hr
          · exact hr
          · exact hr
          · exact hr
          · exact hr
          · exact hr
          · exact absurd rfl hj
          · exact trivial
    · exact rl_mono ⟨is_mono _, is_mono _, is_mono _, is_mono _, is_mono _, is_mono _, is_mono _, is_mono _, is_mono _, any_mono, trivial⟩
    · exact fun L L' w1 he h => ⟨h.1, h.2.1, h.2.2.1, h.2.2.2.1, h.2.2.2.2.1, by rw [← he 9 (by simp)]; exact h.2.2.2.2.2⟩
    · exact fun L w1 w2 hb h => ⟨grown_below h.1 hb, h.2.1.below hb (Nat.le_refl _), h.2.2.1.imp fun _ _ _ hp => hp.keeps (Keeps.below hb (Nat.le_refl _)), old_below h.2.2.2.1 hb (row_lt h.2.2.2.1), ownk_below h.2.2.2.2.1 hb (Nat.le_refl _), old_below h.2.2.2.2.2 hb (row_lt h.2.2.2.2.2)⟩
    · exact ⟨HG3.out, HT3.out, HRO3.out, HZ3.out, HO3.out, HX3.out⟩
    · simp
    intro us w4 hG hH
    obtain ⟨-, -, -, -, -, -, -, -, -, -, -⟩ := hH
    simp only [fillM]
    generalize us 21 = v21
    generalize us 22 = v22
    generalize us 23 = v23
    generalize us 24 = v24
    generalize us 25 = v25
    generalize us 26 = v26
    generalize us 27 = v27
    generalize us 28 = v28
    generalize us 29 = v29
    obtain ⟨g1, g2, g3, g4, g5, g6⟩ := hG
    have HG4 := Lib.hid g1
    have HPT := pcs_tail g2 g3 (by rw [HN.out]; exact hnc) HCM.out
    rw [HN.out] at HPT
    have HZ4 := Lib.hid g4
    have HO4 := Lib.hid g5
    have HX4 : Hid (w4.heap[w.heap.size]? = some (.cells (rqC { q with next := addS q.next m2 } v3 vA) 29 (0, 0))) := g6
    have HP4 := Lib.hid HPT
    clear g1 g2 g3 g4 g5 g6 HG3 HT3 HRO3 HZ3 HX3 HO3 HPT hb
    obtain ⟨At, hAt⟩ : ∃ At, (if c = 1 then some ad else (some ad : Option Addr).map (·.add (1 * 2))) = At := ⟨_, rfl⟩
    rw [hAt] at HP4
    have HSLC : Hid (∀ W : World, (Instr.slice 27 (.slice (some ad) n c) (some (.int .i64 (1 : Int))) none none).run Try.prog W = .ok (.slice At (n - 1) (c - 1)) W) := fun W => by
      rw [← hAt]
      exact run_slice_l (P := Try.prog) 27 55 2 Try.underlying27 (by kernel_rfl) (some ad) n c 1 (by omega) W
    have HONE : Hid ((rqC { q with next := addS q.next m2 } v3 (.slice At (n - 1) (c - 1))).all (·.oneCell') = true) := rqc_ones (own_tb' HO4.out).one rfl
    obtain ⟨n1, hn1⟩ : ∃ n1, n - 1 = n1 := ⟨_, rfl⟩
    obtain ⟨c1, hc1⟩ : ∃ c1, c - 1 = c1 := ⟨_, rfl⟩
    rw [hn1, hc1] at HP4 HSLC HONE
    have HN1 : Hid (r.length = n1) := by have := HN.out; show _ = _; omega
    clear hAt hn1 hc1
    go_wp2_with (first | (refine wpList_slice_eq2 rfl 27 _ _ rfl Try.underlying27 (some ad) n c rfl (.int .i64 (1 : Int)) rfl HSLC.out ?_) | (refine wpList_store_fld rfl 27 _ _ rfl (w.heap.size) 2 rfl (.slice At n1 c1) rfl 29 (rqC { q with next := addS q.next m2 } v3 vA) HX4.out (by show 2 < 6; omega) (by kernel_rfl) (rfl) (rqC { q with next := addS q.next m2 } v3 (.slice At n1 c1)) rfl ?_; obtain ⟨w5, hw5⟩ : ∃ x, w4.setRow (w.heap.size) (rqC { q with next := addS q.next m2 } v3 (.slice At n1 c1)) = x := ⟨_, rfl⟩; have HXw5 : Hid (w5.heap[w.heap.size]? = some (.cells (rqC { q with next := addS q.next m2 } v3 (.slice At n1 c1)) 29 (0, 0))) := (by rw [← hw5]; exact setRow_heap _ _ _ _ _ _ HX4.out); have HZ4w5 : Hid (w5.heap[w.heap.size + 1]? = some (.cells (Zrq) 29 (0, 0))) := (by rw [← hw5]; exact (setRow_other _ _ _ _ (by omega)).trans HZ4.out); have HGw5 : Hid (w.grownBy w5 vD.ownBlock) := (by rw [← hw5]; exact grown_set HG4.out (Nat.le_refl _) _); have HKw5 : Hid (Keeps w4 w5) := (by rw [← hw5]; exact Keeps.other HX4.out (by decide) fun j hj => setRow_other _ _ _ _ hj); have HSZw5 : Hid (w4.heap.size ≤ w5.heap.size) := (by show w4.heap.size ≤ w5.heap.size; rw [← hw5]; simp [World.setRow]); have HWw5 := Lib.hid hw5; clear hw5; rw [HWw5.out]; clear HWw5) | (first | (refine wpList_load_row rfl 29 _ rfl (w.heap.size) rfl 29 (rqC { q with next := addS q.next m2 } v3 (.slice At n1 c1)) (0, 0) _ HXw5.out Try.underlying29 rfl (by kernel_rfl) ?_) | (refine wpList_store_row rfl 29 _ _ rfl (w.heap.size + 1) (rqC { q with next := addS q.next m2 } v3 (.slice At n1 c1)) rfl rfl 29 (Zrq) HZ4w5.out (by kernel_rfl) rfl (HONE.out) ?_)))
    (try simp only [Exit.inBlock, Exit.then])
    refine ret_one (g := w.heap.size + 1) rfl rfl (setRow_heap _ _ _ _ _ _ HZ4w5.out) Try.underlying29 rfl (by kernel_rfl) rfl ?_
    have hkp : Keeps w5 (w5.setRow (w.heap.size + 1) (rqC { q with next := addS q.next m2 } v3 (.slice At n1 c1))) := Keeps.other HZ4w5.out (by decide) fun j hj => setRow_other _ _ _ _ hj
    refine ⟨_, rfl, ?_, grown_set HGw5.out (by omega) _⟩
    rw [HQ.out]
    refine rq_make (q := { q with data := q.data ++ p.data, next := addS q.next m2, ahead := r }) (own_tb' (ownb_keeps (.inl rfl) (ownb_keeps (.inl rfl) HO4.out HKw5.out) hkp)).rv ?_
    exact ((HP4.out.keeps HKw5.out).keeps hkp).rv.wide fun b hb => Nat.le_trans HLO.out hb
  · have hb : (s0 == q.next) = false := by simp [he]
    by_cases h8 : n ≤ 8
    · have HQ : Hid (settleQ q (p :: r) = { q with ahead := p :: r }) := by
        show _ = _
        rw [settle_cons, HS0.out, if_neg he, if_pos (by rw [HN.out]; exact h8)]
      have h8i : (n : Int) ≤ 8 := by omega
      have HONE : Hid ((rqC q vD (.slice (some ad) n c)).all (·.oneCell') = true) := rqc_ones HDO.out rfl
      clear he
      go_wp2_with (first | (refine wpList_store_fld rfl 27 _ _ rfl (w.heap.size) 2 rfl (.slice (some ad) n c) rfl 29 (rqC q vD vA) HX2.out (by show 2 < 6; omega) (by kernel_rfl) (rfl) (rqC q vD (.slice (some ad) n c)) rfl ?_; obtain ⟨w5, hw5⟩ : ∃ x, w2.setRow (w.heap.size) (rqC q vD (.slice (some ad) n c)) = x := ⟨_, rfl⟩; have HXw5 : Hid (w5.heap[w.heap.size]? = some (.cells (rqC q vD (.slice (some ad) n c)) 29 (0, 0))) := (by rw [← hw5]; exact setRow_heap _ _ _ _ _ _ HX2.out); have HZ2w5 : Hid (w5.heap[w.heap.size + 1]? = some (.cells (Zrq) 29 (0, 0))) := (by rw [← hw5]; exact (setRow_other _ _ _ _ (by omega)).trans HZ2.out); have HGw5 : Hid (w.grownBy w5 vD.ownBlock) := (by rw [← hw5]; exact grown_set HG2.out (Nat.le_refl _) _); have HKw5 : Hid (Keeps w2 w5) := (by rw [← hw5]; exact Keeps.other HX2.out (by decide) fun j hj => setRow_other _ _ _ _ hj); have HSZw5 : Hid (w2.heap.size ≤ w5.heap.size) := (by show w2.heap.size ≤ w5.heap.size; rw [← hw5]; simp [World.setRow]); have HWw5 := Lib.hid hw5; clear hw5; rw [HWw5.out]; clear HWw5) | (first | (refine wpList_load_row rfl 29 _ rfl (w.heap.size) rfl 29 (rqC q vD (.slice (some ad) n c)) (0, 0) _ HXw5.out Try.underlying29 rfl (by kernel_rfl) ?_) | (refine wpList_store_row rfl 29 _ _ rfl (w.heap.size + 1) (rqC q vD (.slice (some ad) n c)) rfl rfl 29 (Zrq) HZ2w5.out (by kernel_rfl) rfl (HONE.out) ?_)))
      (try simp only [Exit.inBlock, Exit.then])
      refine ret_one (g := w.heap.size + 1) rfl rfl (setRow_heap _ _ _ _ _ _ HZ2w5.out) Try.underlying29 rfl (by kernel_rfl) rfl ?_
      have hkp : Keeps w5 (w5.setRow (w.heap.size + 1) (rqC q vD (.slice (some ad) n c))) := Keeps.other HZ2w5.out (by decide) fun j hj => setRow_other _ _ _ _ hj
      refine ⟨_, rfl, ?_, grown_set HGw5.out (by omega) _⟩
      rw [HQ.out]
      have HPP : PcsT lo2 w2 (.slice (some ad) n c) (p :: r) := ⟨some ad, c, xs, by rw [← HN.out, List.length_cons], HT2.out, HRO2.out, by rw [List.length_cons, HN.out]; exact hnc, HCM.out, fun h => by cases h⟩
      refine rq_make (q := { q with ahead := p :: r }) (own_tb (ownb_keeps (.inl rfl) (ownb_keeps (.inl rfl) HD2.out HKw5.out) hkp)).rv ?_
      exact ((HPP.keeps HKw5.out).keeps hkp).rv.wide fun b hb => Nat.le_trans HLO.out hb
    · have HQ : Hid (settleQ q (p :: r) = q) := by
        show _ = _
        rw [settle_cons, HS0.out, if_neg he, if_neg (by rw [HN.out]; exact h8)]
      have h8i : ¬ (n : Int) ≤ 8 := by omega
      have HONE : Hid ((rqC q vD vA).all (·.oneCell') = true) := rqc_ones HDO.out hv1
      have HAA := Lib.hid (HA0.out.grown HG2.out HDL.out)
      clear he
      go_wp2_with (first | (refine wpList_load_row rfl 29 _ rfl (w.heap.size) rfl 29 (rqC q vD vA) (0, 0) _ HX2.out Try.underlying29 rfl (by kernel_rfl) ?_) | (refine wpList_store_row rfl 29 _ _ rfl (w.heap.size + 1) (rqC q vD vA) rfl rfl 29 (Zrq) HZ2.out (by kernel_rfl) rfl (HONE.out) ?_))
      (try simp only [Exit.inBlock, Exit.then])
      refine ret_one (g := w.heap.size + 1) rfl rfl (setRow_heap _ _ _ _ _ _ HZ2.out) Try.underlying29 rfl (by kernel_rfl) rfl ?_
      have hkp : Keeps w2 (w2.setRow (w.heap.size + 1) (rqC q vD vA)) := Keeps.other HZ2.out (by decide) fun j hj => setRow_other _ _ _ _ hj
      refine ⟨_, rfl, ?_, grown_set HG2.out (by omega) _⟩
      rw [HQ.out]
      exact rq_make (own_tb (ownb_keeps (.inl rfl) HD2.out hkp)).rv ((HAA.out.keeps hkp).rv.wide fun b hb => Nat.le_trans HLO.out hb)
end Go.Proofs.Ytdgfhcojmfgimaa
