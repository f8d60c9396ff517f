/-
  heap.Free. Every right heap, every place. No condition beyond that.
-/
import Derived.Test.YtagajijjcjfopaaTellH
namespace Go.Proofs.Ytagajijjcjfopaa
open Go.RowKit

/-- what Free answers: bytes, blocks, pages, error -/
def freeO (B : List UInt8) (L : List Bk) (D : List Bool) (x : Int) : List UInt8 × List Bk × List Bool × Int :=
  match L.findIdx? (atB x) with
  | none => (B, L, D, 2)
  | some i => match L[i]? with
    | none => (B, L, D, 2)
    | some b => (putB B b.1 (List.replicate b.2 0), L.eraseIdx i, markD D b.1 b.2, 0)
def FreePost (w : World) (r : List UInt8 × List Bk × List Bool × Int) (e : Ending) (w' : World) : Prop :=
  ∃ v', e = .returned (.tuple #[v', .int .i64 r.2.2.2]) ∧ Hp w.heap.size r.1 r.2.1 r.2.2.1 v' w' ∧ Below w.heap.size w w'
theorem run_clear_bytes (w : World) (g o n c : Nat) (ty : TypeId) (cur : Array Value) (hg : w.heap[g]? = some (.cells cur 5 (0, 0))) (hf : o + n ≤ cur.size) (h0 : 0 < n) :
    (Builtin.clear_ #[25] ty #[.slice (some ⟨g, o, none⟩) n c]).run Try.prog w = .ok (.tuple #[]) (w.setRow g (cur.toList.take o ++ cells (List.replicate n 0) ++ cur.toList.drop (o + (cells (List.replicate n 0)).length)).toArray) := by
  have hv : ∀ w, (zeroValue 5).run Try.prog w = .ok (.int .u8 0) w := fun w => by kernel_rfl
  have hst := run_storeCells_at (P := Try.prog) g o 5 (cells (List.replicate n 0)) 0 cur w hg (by rw [cells_length, List.length_replicate]; omega) (cells_one _)
  have hzc : (Builtin.zeroCells (Value.int .u8 0).cells n).toList = cells (List.replicate n 0) := by
    refine List.ext_getElem? fun i => ?_
    simp only [Builtin.zeroCells, cells, Array.getElem?_toList]
    by_cases h : i < n
    · simp [Value.cells, h, Nat.mod_one]
    · simp [Value.cells, h]
  rw [Nat.add_zero] at hst
  obtain ⟨k, rfl⟩ : ∃ k, n = k + 1 := ⟨n - 1, by omega⟩
  simp [Builtin.clear_, run_underlying Try.underlying25, hv, hzc, hst]
  try rfl
theorem wp_clear_eq {P : Program} {o : Oper} {a : Act} {w : World} {K : Act → World → Prop} {Q : Exit → Act → World → Prop} (x : Operand) (t : TypeId) (ho : o.op = .call { callee := .builtin .clear, args := #[x], argTypes := #[t] }) (v : Value) (hx : a.eval x = v) {z : Value} {w' : World}
    (hr : (Builtin.clear_ #[t] o.type #[v]).run P w = .ok z w') (h : K (a.put o.dst z) w') : o.wp P a w K Q := by
  unfold Oper.wp execOp
  simp only [ho, resolve, invoke, builtin, Sem.run_bind, Sem.run_pure, Result.andThen_ok, List.map_toArray, List.map_cons, List.map_nil, hx, hr]
  exact h

theorem run_clearE {P : Program} {ev : Operand → Value} {o : Oper} {w w' : World} (x : Operand) (t : TypeId) (ho : o.op = .call { callee := .builtin .clear, args := #[x], argTypes := #[t] }) {v z : Value} (hx : ev x = v)
    (hr : (Builtin.clear_ #[t] o.type #[v]).run P w = .ok z w') : (execOp ev o).run P w = .ok (.value z) w' := by
  unfold execOp
  simp only [ho, resolve, invoke, builtin, Sem.run_bind, Sem.run_pure, Result.andThen_ok, List.map_toArray, List.map_cons, List.map_nil, hx, hr]
set_option maxRecDepth 100000 in
set_option maxHeartbeats 1000000 in
theorem free_any {B : List UInt8} {L : List Bk} {D : List Bool} {base : Nat} {v : Value} (x : Int) (w : World) (hv : Hp base B L D v w) (hR : RightH B L D) (hx : I64 x) :
    Calls Try.prog 20 #[v, .int .i64 x] w (FreePost w (freeO B L D x)) := by
  unfold I64 at hx
  unfold FreePost
  obtain ⟨v1, v2, v3, rfl, hv⟩ := hv
  have hb := hR.bytes
  have hm := hR.many
  have hd := hR.most
  have HRR := Lib.hid hR
  obtain ⟨N, hN⟩ : ∃ N, w.heap.size = N := ⟨_, rfl⟩
  obtain ⟨w1, hw1⟩ : ∃ w1, ((w.alloc (.cells #[v1, v2, v3] 29)).alloc (.cells #[.int .i64 x] 3)).alloc (.cells #[.slice none 0 0, .slice none 0 0, .slice none 0 0] 29) = w1 := ⟨_, rfl⟩
  rw [hN]
  have HB1 : Hid (Below N w w1) := by rw [← hw1]; exact (((Below.refl _ _).alloc (by omega) _).alloc (by simp; omega) _).alloc (by simp; omega) _
  have HZ1 : Hid (w1.heap.size = N + 3) := by rw [← hw1]; show _ = _; simp [hN]
  have HG0 : Hid (w1.heap[N]? = some (.cells #[v1, v2, v3] 29 (0, 0))) := by rw [← hw1, ← hN]; exact old_alloc (old_alloc (heap_alloc_new w _) _) _
  have HG1 : Hid (w1.heap[N + 1]? = some (.cells #[.int .i64 x] 3 (0, 0))) := by
    rw [← hw1, ← hN]
    have := heap_alloc_new (w.alloc (.cells #[v1, v2, v3] 29)) (.cells #[.int .i64 x] 3)
    simp only [World.size_alloc] at this
    exact old_alloc (this) _
  have HG2 : Hid (w1.heap[N + 2]? = some (.cells #[.slice none 0 0, .slice none 0 0, .slice none 0 0] 29 (0, 0))) := by
    rw [← hw1, ← hN]
    have := heap_alloc_new ((w.alloc (.cells #[v1, v2, v3] 29)).alloc (.cells #[.int .i64 x] 3)) (.cells #[.slice none 0 0, .slice none 0 0, .slice none 0 0] 29)
    simp only [World.size_alloc] at this
    exact this
  have HC := Lib.hid (clone_any B L D base (.agg #[v1, v2, v3]) w1 (by rw [← hw1]; exact ((hv.shut.alloc _).alloc _).alloc _) (by omega) (by omega) (by omega))
  have HH1 := Lib.hid hv.ones
  obtain ⟨cv0, cv1, cv2⟩ := three_cells HG0.out
  clear hv hR
  go_enter Try.func20, Try.ntmps20
  go_wp2_with fail
  refine HC.out.mono ?_
  rintro e w2 ⟨v', rfl, ⟨y1, y2, y3, rfl, hp2⟩, hb2⟩
  have hx2 := old_below HG0.out hb2 (row_lt HG0.out)
  have hg1 := old_below HG1.out hb2 (row_lt HG1.out)
  have hg2 := old_below HG2.out hb2 (row_lt HG2.out)
  have HX2 := Lib.hid hx2
  have HO2 := Lib.hid hp2.ones
  rw [HZ1.out] at hp2
  have HP : Hid (HpV (N + 3) B L D (w2.setRow N #[y1, y2, y3]) y1 y2 y3) := hp2.other hx2 (by decide) (by decide) (by decide) (setRow_cells _ _ _)
  have HX := Lib.hid (setRow_heap w2 N _ #[y1, y2, y3] _ _ hx2)
  have HY1 := Lib.hid ((setRow_other w2 N (N + 1) #[y1, y2, y3] (by omega)).trans hg1)
  have HY2 := Lib.hid ((setRow_other w2 N (N + 2) #[y1, y2, y3] (by omega)).trans hg2)
  have HB3 : Hid (Below N w (w2.setRow N #[y1, y2, y3])) := below_setRow (HB1.out.trans (hb2.mono (by have := HZ1.out; omega))) (Nat.le_refl _) _
  clear hb2 hp2 hx2 hg1 hg2 hw1 cv0 cv1 cv2 HC HG0 HG1 HG2
  go_upto_region 2 with (refine wpList_store_row rfl 29 _ _ rfl N #[y1, y2, y3] rfl rfl 29 _ HX2.out (by kernel_rfl) rfl HO2.out ?_)
  generalize w2.setRow N #[y1, y2, y3] = w3 at HP HX HY1 HY2 HB3 ⊢
  clear HX2 HO2 HH1
  have HZ3 : Hid (N + 3 ≤ w3.heap.size) := by have := row_lt HY2.out; show _ ≤ _; omega
  obtain ⟨A1, c1, A2, c2, A3, c3, rfl, rfl, rfl⟩ := HP.out.forms
  obtain ⟨nb, hnb⟩ : ∃ k, B.length = k := ⟨_, rfl⟩
  obtain ⟨nk, hnk⟩ : ∃ k, L.length = k := ⟨_, rfl⟩
  obtain ⟨nd, hnd⟩ : ∃ k, D.length = k := ⟨_, rfl⟩
  rw [hnb, hnk, hnd] at HX HP
  rw [hnb] at hb
  rw [hnk] at hm
  rw [hnd] at hd
  have HNK := Lib.hid hnk
  have HNB := Lib.hid hnb
  have HND := Lib.hid hnd
  have HLEN : Hid (nb = 64 * nd ∧ 1 ≤ nd) := by
    have h1 := HRR.out.len
    have h2 := HRR.out.one
    rw [HNB.out, HND.out] at h1
    rw [HND.out] at h2
    exact ⟨h1, h2⟩
  clear hnk hnb hnd
  have HFD := Lib.hid (findat_any (v := .agg #[.slice A1 nb c1, .slice A2 nk c2, .slice A3 nd c3]) x (N + 1) w3 ⟨_, _, _, rfl, HP.out⟩ HRR.out HY1.out)
  obtain ⟨ix, hix⟩ : ∃ z, idxV (atB x) L = z := ⟨_, rfl⟩
  rw [hix] at HFD
  cases hfi : L.findIdx? (atB x) with
  | none =>
    have HV : Hid (freeO B L D x = (B, L, D, 2)) := by show _ = _; unfold freeO; rw [hfi]
    obtain rfl : ix = -1 := by rw [← hix]; unfold idxV; rw [hfi]
    clear hix hfi
    go_wp2_with (refine wpList_load_row rfl 29 _ rfl N rfl 29 #[.slice A1 nb c1, .slice A2 nk c2, .slice A3 nd c3] (0, 0) _ HX.out Try.underlying29 rfl (by kernel_rfl) ?_)
    refine HFD.out.mono ?_
    rintro e w4 ⟨rfl, hb4⟩
    have HB4 := Lib.hid (HB3.out.trans (hb4.mono (Nat.le_trans (Nat.le_add_right _ _) HZ3.out)))
    have HX4 := Lib.hid (old_below HX.out hb4 (row_lt HX.out))
    have HY4 := Lib.hid (old_below HY2.out hb4 (row_lt HY2.out))
    have HP4 := Lib.hid (HP.out.below hb4)
    have HZ4 : Hid (N + 3 ≤ w4.heap.size) := by have := row_lt HY4.out; show _ ≤ _; omega
    clear hb4
    go_wp2_with (first | refine wpList_load_row rfl 29 _ rfl N rfl 29 #[.slice A1 nb c1, .slice A2 nk c2, .slice A3 nd c3] (0, 0) _ HX4.out Try.underlying29 rfl (by kernel_rfl) ?_ | refine wpList_store_row rfl 29 _ _ rfl (N + 2) #[.slice A1 nb c1, .slice A2 nk c2, .slice A3 nd c3] rfl rfl 29 _ HY4.out (by kernel_rfl) rfl HP4.out.ones ?_)
    refine ret_two (g := N + 2) rfl rfl (setRow_heap w4 (N + 2) _ #[.slice A1 nb c1, .slice A2 nk c2, .slice A3 nd c3] _ _ HY4.out) Try.underlying29 rfl (by kernel_rfl) rfl ?_
    
    rw [HV.out]
    exact ⟨_, rfl, (by have := ((HP4.out.wide (base' := N) (by omega)).other HY4.out (by decide) (by decide) (by decide) (setRow_cells w4 (N + 2) #[.slice A1 nb c1, .slice A2 nk c2, .slice A3 nd c3])); exact ⟨_, _, _, rfl, this⟩), below_setRow HB4.out (by omega) _⟩
  | some i =>
    obtain ⟨hi1, hi2, -⟩ := List.findIdx?_eq_some_iff_getElem.1 hfi
    obtain ⟨⟨a, m⟩, hbk⟩ : ∃ b, L[i]? = some b := ⟨_, List.getElem?_eq_getElem hi1⟩
    have HV : Hid (freeO B L D x = (putB B a (List.replicate m 0), L.eraseIdx i, markD D a m, 0)) := by show _ = _; unfold freeO; rw [hfi]; simp only [hbk]
    obtain rfl : ix = (i : Int) := by rw [← hix]; unfold idxV; rw [hfi]
    have hbd := blk_bound HRR.out.blk _ (List.mem_of_getElem? hbk)
    rw [HNB.out] at hbd
    simp only at hbd
    rw [HNK.out] at hi1
    have HBK := Lib.hid hbk
    obtain ⟨-, hm8, ham⟩ := hbd
    clear hix hfi hi2 hbk
    go_wp2_with (refine wpList_load_row rfl 29 _ rfl N rfl 29 #[.slice A1 nb c1, .slice A2 nk c2, .slice A3 nd c3] (0, 0) _ HX.out Try.underlying29 rfl (by kernel_rfl) ?_)
    refine HFD.out.mono ?_
    rintro e w4 ⟨rfl, hb4⟩
    have HB4 := Lib.hid (HB3.out.trans (hb4.mono (Nat.le_trans (Nat.le_add_right _ _) HZ3.out)))
    have HX4 := Lib.hid (old_below HX.out hb4 (row_lt HX.out))
    have HY4 := Lib.hid (old_below HY2.out hb4 (row_lt HY2.out))
    have HP4 := Lib.hid (HP.out.below hb4)
    have HZ4 : Hid (N + 3 ≤ w4.heap.size) := by have := row_lt HY4.out; show _ ≤ _; omega
    clear hb4
    have hown2 := HP4.out.2.1
    rw [HNK.out] at hown2
    obtain ⟨g2, c', cur', e1, -⟩ := ownk_some hown2 (by omega)
    injection e1 with e1 _ e3
    subst e1 e3
    have HO2 := Lib.hid hown2
    have hown1 := HP4.out.1
    rw [HNB.out] at hown1
    obtain ⟨g1, c', cur', e1, -⟩ := ownk_some hown1 (by have := HLEN.out; omega)
    injection e1 with e1 _ e3
    subst e1 e3
    have HO1 := Lib.hid hown1
    have HEL : Hid (∀ j v, [Value.int .i64 (a : Int), Value.int .i64 (m : Int)][j]? = some v → w4.cell? ((⟨g2, i * 2, none⟩ : Addr).add j) = some v) := by
      have := (ownk_rd hown2).elem (k := 2) i
      rw [bks_at L i _ HBK.out, Addr.add_mid, Nat.zero_add] at this
      exact this
    obtain ⟨x0, x1, x2⟩ := three_cells HX4.out
    clear hown1 hown2
    go_upto_region 6 with (first | refine wpList_load_at rfl 62 _ rfl ⟨g2, i * 2, none⟩ rfl [.int .i64 (a : Int), .int .i64 (m : Int)] _ HEL.out Try.underlying62 rfl (by kernel_rfl) ?_)
    obtain ⟨q, rfl⟩ : ∃ q, nk = q + 1 := ⟨nk - 1, by omega⟩
    obtain ⟨w5, hw5⟩ : ∃ w5, w4.alloc (.cells #[.int .i64 (a : Int), .int .i64 (m : Int)] 62) = w5 := ⟨_, rfl⟩
    rw [hw5]
    obtain ⟨M, hM⟩ : ∃ M, w4.heap.size = M := ⟨_, rfl⟩
    rw [hM]
    have HX5 : Hid (w5.heap[N]? = some (.cells #[.slice (some ⟨g1, 0, none⟩) nb c1, .slice (some ⟨g2, 0, none⟩) (q + 1) c2, .slice A3 nd c3] 29 (0, 0))) := by rw [← hw5]; exact old_alloc HX4.out _
    have HY5 : Hid (w5.heap[N + 2]? = some (.cells #[.slice none 0 0, .slice none 0 0, .slice none 0 0] 29 (0, 0))) := by rw [← hw5]; exact old_alloc HY4.out _
    have HM5 : Hid (w5.heap[M]? = some (.cells #[.int .i64 (a : Int), .int .i64 (m : Int)] 62 (0, 0))) := by rw [← hw5, ← hM]; exact heap_alloc_new w4 _
    have HP5 : Hid (HpV (N + 3) B L D w5 (.slice (some ⟨g1, 0, none⟩) nb c1) (.slice (some ⟨g2, 0, none⟩) (q + 1) c2) (.slice A3 nd c3)) := by rw [← hw5]; exact HP4.out.alloc _
    have HB5 : Hid (Below N w w5) := by rw [← hw5]; exact HB4.out.alloc (by have := HZ4.out; omega) _
    have HZ5 : Hid (N + 3 ≤ w5.heap.size) := by have := row_lt HY5.out; show _ ≤ _; omega
    have hnc1 : nb ≤ c1 := by
      obtain ⟨A', c', e, h1, _⟩ := ownk_form HO1.out
      injection e with _ _ e3
      omega
    obtain ⟨cur, hg1, hlo1, hnc1', hcm1, hcs1, htk1⟩ := own_at0 (by have := HP5.out.1; rwa [HNB.out] at this) (by omega)
    obtain ⟨cur2, hcur2⟩ : ∃ cur2 : Array Value, (cur.toList.take a ++ cells (List.replicate m 0) ++ cur.toList.drop (a + (cells (List.replicate m 0)).length)).toArray = cur2 := ⟨_, rfl⟩
    have HCLR : Hid (∀ w' : World, w'.heap[g1]? = some (.cells cur 5 (0, 0)) → ∀ ty, (Builtin.clear_ #[25] ty #[.slice (some ⟨g1, a, none⟩) m (c1 - a)]).run Try.prog w' = .ok (.tuple #[]) (w'.setRow g1 cur2)) := fun w' h' ty => by
      rw [← hcur2]
      exact run_clear_bytes w' g1 a m (c1 - a) ty cur h' (by omega) (by omega)
    have HCSZ : Hid (cur.size = cur2.size) := by
      show _ = _
      rw [← hcur2]
      simp only [List.size_toArray, List.length_append, List.length_take, List.length_drop, Array.length_toList, hcs1, cells_length, List.length_replicate]
      omega
    have HG1 := Lib.hid hg1
    have HGM : Hid (M ≠ g1) := fun e => by
      have h5 := HM5.out
      rw [e, hg1] at h5
      injection h5 with h5
      injection h5 with _ h
      exact absurd h (by decide)
    have HLO := Lib.hid hlo1
    have HCA := Lib.hid (show nb ≤ c1 ∧ c1 ≤ maxLen from ⟨hnc1', hcm1⟩)
    have HCB := Lib.hid hcs1
    have HCD := Lib.hid htk1
    have HCE := Lib.hid hcur2
    clear x0 x1 x2 hw5 hM hg1 hcm1 hcs1 htk1 hcur2
    apply wp_region_relyG [7] (fun Ld w' => Gro (· = g1) w5 w' ∧ w'.heap[g1]? = some (.cells (if Ld 7 then cur2 else cur) 5 (0, 0))) (RL [Is _, Is (.slice (some ⟨g1, 0, none⟩) nb c1), Is _, Is (.int .i64 (a : Int)), Is (.agg #[.int .i64 (a : Int), .int .i64 (m : Int)]), Is (.int .i64 ((a : Int) + (m : Int))), Is (.slice (some ⟨g1, a, none⟩) m (c1 - a)), Any]) [false, false, false, false, false, false, false, false, false, false, false, false, false, false, false, false, false, false, false, false, false, true, true, true, true, true, true, true, false, false, false, false, false, false, false, false, false, false, false, false, false, false]
    · kernel_rfl
    · kernel_rfl
    · kernel_rfl
    · refine ⟨?_, ?_, ?_, ?_, ?_, ?_, ?_, ?_, trivial⟩
      · intro Ld ev w' hC hL hx K hK
        have e2 : ev (.tmp 2) = _ := hx.base 2 (by kernel_rfl)
        have HK := Lib.hid hK
        have HC := Lib.hid hC
        have HL := Lib.hid hL
        have HX := Lib.hid hx
        have hc := hx.cst
        skip
        clear hx hK hC hL
        unfold Run
        simp [execOp, Upon, go_sem, *]
        exact HK.out _ _ (.inl ⟨Below.refl _ _, by decide⟩) rfl
      · intro Ld ev w' hC hL hx K hK
        have e21 := hx.held 0 _ rfl (by kernel_rfl)
        change ev (.tmp 21) = _ at e21
        have HK := Lib.hid hK
        have HC := Lib.hid hC
        have HL := Lib.hid hL
        have HX := Lib.hid hx
        have hc := hx.cst
        skip
        clear hx hK hC hL
        have cc := (three_cells ((HC.out.1.block N (row_lt HX5.out) (by omega)).trans HX5.out)).1
        unfold Run
        simp [execOp, Upon, go_sem, *]
        exact HK.out _ _ (.inl ⟨Below.refl _ _, by decide⟩) rfl
      · intro Ld ev w' hC hL hx K hK
        have e7 : ev (.tmp 7) = _ := hx.base 7 (by kernel_rfl)
        have HK := Lib.hid hK
        have HC := Lib.hid hC
        have HL := Lib.hid hL
        have HX := Lib.hid hx
        have hc := hx.cst
        skip
        clear hx hK hC hL
        unfold Run
        simp [execOp, Upon, go_sem, *]
        exact HK.out _ _ (.inl ⟨Below.refl _ _, by decide⟩) rfl
      · intro Ld ev w' hC hL hx K hK
        have e23 := hx.held 2 _ rfl (by kernel_rfl)
        change ev (.tmp 23) = _ at e23
        have HK := Lib.hid hK
        have HC := Lib.hid hC
        have HL := Lib.hid hL
        have HX := Lib.hid hx
        have hc := hx.cst
        skip
        clear hx hK hC hL
        have cc := (two_cells ((HC.out.1.block M (row_lt HM5.out) HGM.out).trans HM5.out)).1
        unfold Run
        simp [execOp, Upon, go_sem, *]
        exact HK.out _ _ (.inl ⟨Below.refl _ _, by decide⟩) rfl
      · intro Ld ev w' hC hL hx K hK
        have e7 : ev (.tmp 7) = _ := hx.base 7 (by kernel_rfl)
        have HK := Lib.hid hK
        have HC := Lib.hid hC
        have HL := Lib.hid hL
        have HX := Lib.hid hx
        have hc := hx.cst
        skip
        clear hx hK hC hL
        have hx := (HC.out.1.block M (row_lt HM5.out) HGM.out).trans HM5.out
        have q1 : ev (.tmp 7) = .pointer (some ⟨M, 0, none⟩) := e7
        have hld := run_loadVar_row (P := Try.prog) w' M 62 62 #[.int .i64 (a : Int), .int .i64 (m : Int)] (0, 0) _ hx Try.underlying62 rfl (by kernel_rfl)
        unfold Run
        rw [run_loadE 62 _ rfl q1 hld]
        exact HK.out _ _ (.inl ⟨Below.refl _ _, by decide⟩) rfl
      · intro Ld ev w' hC hL hx K hK
        have e25 := hx.held 4 _ rfl (by kernel_rfl)
        change ev (.tmp 25) = _ at e25
        have HK := Lib.hid hK
        have HC := Lib.hid hC
        have HL := Lib.hid hL
        have HX := Lib.hid hx
        have hc := hx.cst
        have hf := hx.fn
        clear hx hK hC hL
        unfold Run
        simp [execOp, Upon, go_sem, *]
        refine (end_any a m w' (by omega) (by omega) (by omega)).mono ?_
        rintro e w9 ⟨rfl, hb9⟩
        exact ⟨_, rfl, HK.out _ _ (.inl ⟨hb9, by decide⟩) rfl⟩
      · intro Ld ev w' hC hL hx K hK
        have e22 := hx.held 1 _ rfl (by kernel_rfl)
        have e24 := hx.held 3 _ rfl (by kernel_rfl)
        have e26 := hx.held 5 _ rfl (by kernel_rfl)
        change ev (.tmp 22) = _ at e22
        change ev (.tmp 24) = _ at e24
        change ev (.tmp 26) = _ at e26
        have HK := Lib.hid hK
        have HC := Lib.hid hC
        have HL := Lib.hid hL
        have HX := Lib.hid hx
        have hc := hx.cst
        skip
        clear hx hK hC hL
        have q22 : ev (.tmp 22) = .slice (some ⟨g1, 0, none⟩) nb c1 := e22
        have hrun : (Instr.slice 25 (.slice (some ⟨g1, 0, none⟩) nb c1) (some (ev (.tmp 24))) (some (ev (.tmp 26))) none).run Try.prog w' = .ok (.slice (some ⟨g1, a, none⟩) m (c1 - a)) w' := by
          rw [e24, e26, show (a : Int) + (m : Int) = ((a + m : Nat) : Int) from by omega]
          have := run_slice_lh (P := Try.prog) 25 5 1 Try.underlying25 (by kernel_rfl) (some ⟨g1, 0, none⟩) nb c1 a (a + m) (by omega) (by omega) w'
          rwa [if_neg (by omega), Option.map_some, Addr.add_mid, Nat.zero_add, Nat.mul_one, Nat.add_sub_cancel_left] at this
        unfold Run
        rw [run_sliceE 25 _ (some _) (some _) rfl Try.underlying25 q22 hrun]
        exact HK.out _ _ (.inl ⟨Below.refl _ _, by decide⟩) rfl
      · intro Ld ev w' hC hL hx K hK
        have e27 := hx.held 6 _ rfl (by kernel_rfl)
        change ev (.tmp 27) = _ at e27
        have HK := Lib.hid hK
        have HC := Lib.hid hC
        have HL := Lib.hid hL
        have HX := Lib.hid hx
        have hc := hx.cst
        skip
        clear hx hK hC hL
        have hC := HC.out.2
        rw [HL.out] at hC
        have HC2 := Lib.hid hC
        have hrun := HCLR.out w' HC2.out 0
        have q27 : ev (.tmp 27) = .slice (some ⟨g1, a, none⟩) m (c1 - a) := e27
        clear hC
        unfold Run
        rw [run_clearE _ 25 rfl q27 hrun]
        refine HK.out _ _ (.inr ⟨⟨gro_set HC.out.1 HC2.out HCSZ.out, setRow_heap _ _ _ _ _ _ HC2.out⟩, fun j hj hlj u hr => rl_sg (S := fun _ _ => True) (ex := []) 0 (by exact ⟨.inr (is_sg _ _), .inr (is_sg _ _), .inr (is_sg _ _), .inr (is_sg _ _), .inr (is_sg _ _), .inr (is_sg _ _), .inr (is_sg _ _), .inr (fun _ _ _ _ _ => trivial), trivial⟩) j u _ _ rfl trivial hr⟩) trivial
    · exact rl_mono ⟨is_mono _, is_mono _, is_mono _, is_mono _, is_mono _, is_mono _, is_mono _, any_mono, trivial⟩
    · exact fun L1 L2 w1 he h => ⟨h.1, by rw [← he 7 (by simp)]; exact h.2⟩
    · exact fun L1 w1 w2 hb h => ⟨h.1.trans (Gro.of hb), (hb.block _ (row_lt h.2)).trans h.2⟩
    · exact ⟨Gro.refl _, HG1.out⟩
    · simp
    intro us wr hG hH
    obtain ⟨-, -, -, -, -, -, -, -, -⟩ := hH
    simp only [fillM]
    generalize us 21 = v21
    generalize us 22 = v22
    generalize us 23 = v23
    generalize us 24 = v24
    generalize us 25 = v25
    generalize us 26 = v26
    generalize us 27 = v27
    obtain ⟨hg5, hgz⟩ := hG
    have hgz : wr.heap[g1]? = some (.cells cur2 5 (0, 0)) := hgz
    have HBZ : Hid (a + (List.replicate m (0 : UInt8)).length ≤ nb) := by show _ ≤ _; rw [List.length_replicate]; exact ham
    have HX6 : Hid (wr.heap[N]? = some (.cells #[.slice (some ⟨g1, 0, none⟩) nb c1, .slice (some ⟨g2, 0, none⟩) (q + 1) c2, .slice A3 nd c3] 29 (0, 0))) := (hg5.block N (row_lt HX5.out) (by omega)).trans HX5.out
    have HY6 : Hid (wr.heap[N + 2]? = some (.cells #[.slice none 0 0, .slice none 0 0, .slice none 0 0] 29 (0, 0))) := (hg5.block (N + 2) (row_lt HY5.out) (by omega)).trans HY5.out
    have HM6 : Hid (wr.heap[M]? = some (.cells #[.int .i64 (a : Int), .int .i64 (m : Int)] 62 (0, 0))) := (hg5.block M (row_lt HM5.out) HGM.out).trans HM5.out
    have HB6 : Hid (Below N w wr) := HB5.out.trans (hg5.below (B := N) (fun k hk => by omega) (by have := HZ5.out; omega))
    have HPL : Hid ((putB B a (List.replicate m 0)).length = nb) := by show _ = _; rw [putB_length (by rw [HNB.out]; exact HBZ.out), HNB.out]
    have HP6 : Hid (HpV (N + 3) (putB B a (List.replicate m 0)) L D wr (.slice (some ⟨g1, 0, none⟩) nb c1) (.slice (some ⟨g2, 0, none⟩) (q + 1) c2) (.slice A3 nd c3)) := by
      have hkk : ∀ {e : TypeId} {k : Nat} {v : Value} {n : Nat} {xs : List Value}, e ≠ 5 → w5.ownsRow (N + 3) e k v n xs → wr.ownsRow (N + 3) e k v n xs := fun hne ho => by
        refine ⟨ho.1, ?_⟩
        rcases ho.2 with h2 | ⟨g, cap, cu, rfl, h1, h2, h3⟩
        · exact .inl h2
        · refine .inr ⟨g, cap, cu, rfl, h1, (hg5.block g (row_lt h2) fun e => ?_).trans h2, h3⟩
          rw [e, HG1.out] at h2
          injection h2 with h2
          injection h2 with _ h
          exact hne h.symm
      refine ⟨?_, hkk (by decide) HP5.out.2.1, hkk (by decide) HP5.out.2.2⟩
      rw [HPL.out]
      have := put_own (w := w5) HG1.out HLO.out HCA.out.1 HCA.out.2 HCB.out HCD.out HNB.out HBZ.out HCE.out
      obtain ⟨cu2, e1, e2, e3, e4, e5, e6⟩ := own_at0 this (by omega)
      rw [setRow_heap _ _ _ _ _ _ HG1.out] at e1
      injection e1 with e1
      injection e1 with e1
      subst e1
      exact ⟨this.1, .inr ⟨g1, c1, _, rfl, e2, hgz, e3, e4, e5, e6⟩⟩
    have HZ6 : Hid (N + 3 ≤ wr.heap.size) := by have := row_lt HY6.out; show _ ≤ _; omega
    clear hg5 hgz
    have HMK := Lib.hid (mark_any (.slice (some ⟨g1, 0, none⟩) nb c1) (.slice (some ⟨g2, 0, none⟩) (q + 1) c2) (.slice A3 nd c3) D a m (N + 3) wr HP6.out.2.2 rfl rfl (by rw [HND.out]; exact hd) (fun _ => by rw [HND.out]; have := HLEN.out; omega) (by omega) (by omega))
    obtain ⟨d0, d1⟩ := two_cells HM6.out
    go_wp2_with (refine wpList_load_row rfl 29 _ rfl N rfl 29 #[.slice (some ⟨g1, 0, none⟩) nb c1, .slice (some ⟨g2, 0, none⟩) (q + 1) c2, .slice A3 nd c3] (0, 0) _ HX6.out Try.underlying29 rfl (by kernel_rfl) ?_)
    refine HMK.out.mono ?_
    rintro e w7 ⟨rfl, ho7, hg7⟩
    clear d0 d1
    have hnb7 : ∀ b o, b < N + 3 → wr.heap[b]? = some o → w7.heap[b]? = some o := fun b o hb ho => (hg7.block b (row_lt ho) (fun e => by have := (HP6.out.2.2.lt b e.symm).1; omega)).trans ho
    have HX7 := Lib.hid (hnb7 N _ (by omega) HX6.out)
    have HY7 := Lib.hid (hnb7 (N + 2) _ (by omega) HY6.out)
    have hkp : ∀ {e : TypeId} {k : Nat} {v : Value} {n : Nat} {xs : List Value}, 4 ≠ e → wr.ownsRow (N + 3) e k v n xs → w7.ownsRow (N + 3) e k v n xs := fun hne ho => ownk_kept ho hg7 (fun g C t fr hg hC => by have := ownk_type HP6.out.2.2 hg hC; rw [this]; exact hne)
    have HP7 : Hid (HpV (N + 3) (putB B a (List.replicate m 0)) L (markD D a m) w7 (.slice (some ⟨g1, 0, none⟩) nb c1) (.slice (some ⟨g2, 0, none⟩) (q + 1) c2) (.slice A3 nd c3)) := ⟨hkp (by decide) HP6.out.1, hkp (by decide) HP6.out.2.1, ho7⟩
    have HB7 : Hid (Below N w w7) := HB6.out.trans ⟨hg7.os, hg7.tape, hg7.output, hg7.size, fun b hb => hg7.block b (by have := HZ6.out; omega) (fun e => by have := (HP6.out.2.2.lt b e.symm).1; omega)⟩
    have HZ7 : Hid (N + 3 ≤ w7.heap.size) := by have := row_lt HY7.out; show _ ≤ _; omega
    have HDL := Lib.hid (del_any g2 q c2 i (N + 3) (bks L) w7 (by have := HP7.out.2.1; rwa [HNK.out] at this) (bks_one L) (by omega) (by omega))
    have HG2 : Hid (N + 3 ≤ g2) := by have := (HP7.out.2.1.lt g2 rfl).1; exact this
    obtain ⟨x0, x1, x2⟩ := three_cells HX7.out
    clear hnb7 hkp ho7 hg7
    go_wp2_with fail
    refine HDL.out.mono ?_
    rintro e w8 ⟨rfl, ho8, hg8⟩
    clear x0 x1 x2
    have hnb8 : ∀ b o, b < N + 3 → w7.heap[b]? = some o → w8.heap[b]? = some o := fun b o hb ho => (hg8.block b (row_lt ho) (fun e => by injection e with e; have := HG2.out; omega)).trans ho
    have hx8 := hnb8 N _ (by omega) HX7.out
    have hy8 := hnb8 (N + 2) _ (by omega) HY7.out
    have hkp : ∀ {e : TypeId} {k : Nat} {v : Value} {n : Nat} {xs : List Value}, 62 ≠ e → w7.ownsRow (N + 3) e k v n xs → w8.ownsRow (N + 3) e k v n xs := fun hne ho => ownk_kept ho hg8 (fun g C t fr hg hC => by have := ownk_type HP7.out.2.1 (g := g) (by rw [← hg]; rfl) hC; rw [this]; exact hne)
    obtain ⟨w9, hw9⟩ : ∃ w9, w8.setCell ⟨N, 1, none⟩ (.slice (some ⟨g2, 0, none⟩) q c2) = w9 := ⟨_, rfl⟩
    have hoth : ∀ j, j ≠ N → w9.heap[j]? = w8.heap[j]? := fun j hj => by rw [← hw9]; exact heap_setCell_other _ _ _ _ hj
    have HX9 : Hid (w9.heap[N]? = some (.cells #[.slice (some ⟨g1, 0, none⟩) nb c1, .slice (some ⟨g2, 0, none⟩) q c2, .slice A3 nd c3] 29 (0, 0))) := by rw [← hw9]; exact heap_setCell_same w8 N 1 _ _ _ hx8
    have HY9 : Hid (w9.heap[N + 2]? = some (.cells #[.slice none 0 0, .slice none 0 0, .slice none 0 0] 29 (0, 0))) := (hoth (N + 2) (by omega)).trans hy8
    have HP9 : Hid (HpV (N + 3) (putB B a (List.replicate m 0)) (L.eraseIdx i) (markD D a m) w9 (.slice (some ⟨g1, 0, none⟩) nb c1) (.slice (some ⟨g2, 0, none⟩) q c2) (.slice A3 nd c3)) := by
      refine HpV.other (w := w8) ⟨hkp (by decide) HP7.out.1, ?_, hkp (by decide) HP7.out.2.2⟩ hx8 (by decide) (by decide) (by decide) hoth
      rw [show (L.eraseIdx i).length = q from by rw [List.length_eraseIdx, HNK.out, if_pos hi1]; omega, show bks (L.eraseIdx i) = (bks L).take (i * 2) ++ (bks L).drop (i * 2 + 2) from by rw [List.eraseIdx_eq_take_drop_succ, bks_append, bks_take, show i * 2 + 2 = (i + 1) * 2 from by omega, bks_drop]]
      exact ho8
    have HB9 : Hid (Below N w w9) := by
      rw [← hw9]
      exact (HB7.out.trans ⟨hg8.os, hg8.tape, hg8.output, hg8.size, fun b hb => hg8.block b (by have := HZ7.out; omega) (fun e => by injection e with e; have := HG2.out; omega)⟩).setCell (by simp only; omega) _
    obtain ⟨z0, z1, z2⟩ := three_cells hx8
    have hfz := frozen_of_row w8 N 1 _ _ hx8
    clear hnb8 hx8 hy8 hkp hoth ho8 hg8
    go_upto_region 9 with (fail)
    clear z0 z1 z2 hfz hw9
    go_wp2_with (first | refine wpList_load_row rfl 29 _ rfl N rfl 29 #[.slice (some ⟨g1, 0, none⟩) nb c1, .slice (some ⟨g2, 0, none⟩) q c2, .slice A3 nd c3] (0, 0) _ HX9.out Try.underlying29 rfl (by kernel_rfl) ?_ | refine wpList_store_row rfl 29 _ _ rfl (N + 2) #[.slice (some ⟨g1, 0, none⟩) nb c1, .slice (some ⟨g2, 0, none⟩) q c2, .slice A3 nd c3] rfl rfl 29 _ HY9.out (by kernel_rfl) rfl HP9.out.ones ?_)
    refine ret_two (g := N + 2) rfl rfl (setRow_heap w9 (N + 2) _ #[.slice (some ⟨g1, 0, none⟩) nb c1, .slice (some ⟨g2, 0, none⟩) q c2, .slice A3 nd c3] _ _ HY9.out) Try.underlying29 rfl (by kernel_rfl) rfl ?_
    
    rw [HV.out]
    exact ⟨_, rfl, (by have := ((HP9.out.wide (base' := N) (by omega)).other HY9.out (by decide) (by decide) (by decide) (setRow_cells w9 (N + 2) #[.slice (some ⟨g1, 0, none⟩) nb c1, .slice (some ⟨g2, 0, none⟩) q c2, .slice A3 nd c3])); exact ⟨_, _, _, rfl, this⟩), below_setRow HB9.out (by omega) _⟩
end Go.Proofs.Ytagajijjcjfopaa
