/-
  The code's Tick of wheels. Every right wheel before 2^62.
-/
import Derived.Test.YtljochpomgjjeaaRwe
namespace Go.Proofs.Ytljochpomgjjeaa
open Go.RowKit

/-- in a right wheel those that are due at the next tick stand ahead -/
theorem due_ahead {n : Nat} {T : List Tm} (h : rightW n T = true) : T.filter (isDue (n + 1)) = T.take (untC T (n + 1)) ∧ T.filter (notDue (n + 1)) = T.drop (untC T (n + 1)) := by
  obtain ⟨_, _, h3, h4⟩ := rightW_iff.1 h
  have key : ∀ U : List Tm, U.Pairwise before → (∀ t ∈ U, n < t.due) → U.filter (isDue (n + 1)) = U.takeWhile (fun x => decide (x.due ≤ n + 1)) ∧ U.filter (notDue (n + 1)) = U.dropWhile (fun x => decide (x.due ≤ n + 1)) := by
    intro U
    induction U with
    | nil => intro _ _; exact ⟨rfl, rfl⟩
    | cons y U ih =>
      intro hp hg
      obtain ⟨hy, hU⟩ := List.pairwise_cons.1 hp
      have hny := hg y (List.mem_cons_self ..)
      obtain ⟨i1, i2⟩ := ih hU fun t ht => hg t (List.mem_cons_of_mem _ ht)
      by_cases hd : y.due ≤ n + 1
      · have e1 : isDue (n + 1) y = true := decide_eq_true (by omega)
        have e2 : notDue (n + 1) y = false := decide_eq_false (by omega)
        rw [List.filter_cons, List.filter_cons, e1, e2, List.takeWhile_cons, List.dropWhile_cons, decide_eq_true hd]
        exact ⟨congrArg (y :: ·) i1, i2⟩
      · have hall : ∀ t ∈ y :: U, n + 1 < t.due := fun t ht => by
          rcases List.mem_cons.1 ht with rfl | ht
          · omega
          · have := (hy t ht).2
            omega
        rw [List.takeWhile_cons, List.dropWhile_cons, decide_eq_false hd]
        refine ⟨?_, ?_⟩
        · rw [List.filter_eq_nil_iff.2 fun t ht => by have := hall t ht; unfold isDue; simp; omega]
          rfl
        · exact List.filter_eq_self.2 fun t ht => decide_eq_true (by have := hall t ht; omega)
  obtain ⟨k1, k2⟩ := key T h3 h4
  obtain ⟨c1, c2⟩ := while_cut (fun x : Tm => decide (x.due ≤ n + 1)) T
  unfold untC
  exact ⟨k1.trans c1, k2.trans c2⟩
theorem id_rows {L : List Tm} {i : Nat} {x : Tm} (h : L[i]? = some x) : rowsOf inA ((L.take (i + 1)).map (·.id)) = rowsOf inA ((L.take i).map (·.id)) ++ (#[.int .i64 x.id] : Array Value).toList := by
  have hi := (List.getElem?_eq_some_iff.1 h).1
  rw [List.take_succ_eq_append_getElem hi, (List.getElem?_eq_some_iff.1 h).2, List.map_append, rows_append, List.map_singleton, rows_one_el]
  rfl
set_option maxRecDepth 100000 in
set_option maxHeartbeats 16000000 in
theorem tick_any (v : Value) (n : Nat) (T : List Tm) (w : World) (hv : WhS w v n T) (hR : rightW n T = true) (_hT : ∀ t ∈ T, I64 t.id ∧ t.due < 18446744073709551616) (hn : n < 4611686018427387904) :
    Calls Try.prog 13 #[v] w fun e w' => ∃ v' u', e = .returned (.tuple #[v', u']) ∧ WhT w' v' (n + 1) (T.filter (notDue (n + 1))) ∧ InT w' u' (dueX (n + 1) T) ∧ Below w.heap.size w w' := by
  have hl := right_len hR
  obtain ⟨s, rfl, A, c, rfl, hr, hA, hnc, hcm⟩ := hv
  obtain ⟨n1, hnn⟩ : ∃ n1, T.length = n1 := ⟨_, rfl⟩
  have HN := Lib.hid hnn
  have HDA := Lib.hid (due_ahead hR)
  rw [hnn] at hl hnc ⊢
  obtain ⟨w1, hw1⟩ : ∃ w1, (w.alloc (.cells #[.int .u64 (n : Int), .slice A n1 c] 27)).alloc (.cells #[.int .u64 0, .slice none 0 0] 27) = w1 := ⟨_, rfl⟩
  have HB1 : Hid (Below w.heap.size w w1) := by rw [← hw1]; exact ((Below.refl _ _).alloc (Nat.le_refl _) _).alloc (by simp) _
  have HX0 : Hid (w1.heap[w.heap.size]? = some (.cells #[.int .u64 (n : Int), .slice A n1 c] 27 (0, 0))) := by rw [← hw1]; exact old_alloc (heap_alloc_new w _) _
  have HX1 : Hid (w1.heap[w.heap.size + 1]? = some (.cells #[.int .u64 0, .slice none 0 0] 27 (0, 0))) := by rw [← hw1]; exact new_at1 w _ _
  have HW := Lib.hid hw1
  obtain ⟨k, hk⟩ : ∃ k, untC T (n + 1) = k := ⟨_, rfl⟩
  have hkn : k ≤ n1 := by rw [← hk, ← hnn]; exact unt_le _ _
  have HRW := Lib.hid (hr.below HB1.out (Nat.le_refl _))
  have HUN : Hid (Calls Try.prog 21 #[.slice A n1 c, .int .u64 ((n : Int) + 1)] w1 fun e w'' => e = .returned (.int .i64 (k : Int)) ∧ Below w1.heap.size w1 w'') := by
    have := until_any (.slice A n1 c) T (n + 1) w1 ⟨A, c, by rw [hnn], HRW.out, hA, by omega, hcm⟩ (by omega)
    rw [hk] at this
    exact this
  rw [hk] at HDA
  have HCM := Lib.hid hcm
  have HA := Lib.hid hA
  have hcm2 : c ≤ 9223372036854775807 := by unfold maxLen at hcm; omega
  obtain ⟨b, hb⟩ : ∃ b, w.heap.size = b := ⟨_, rfl⟩
  obtain ⟨g, hg⟩ : ∃ g, b + 1 = g := ⟨_, rfl⟩
  have HBB := Lib.hid hb
  rw [hb] at HX0 HX1
  rw [hg] at HX1
  have HG := Lib.hid hg
  have HNE : Hid (b ≠ g) := by show _ ≠ _; omega
  clear hw1 hg hb hk hnn hr hA hcm
  obtain ⟨a0, a1⟩ := two_cells HX0.out
  go_enter Try.func13, Try.ntmps13
  go_upto_region 1 with (fail)
  change Code.wp _ _ _ _ ((w.alloc (.cells #[.int .u64 (n : Int), .slice A n1 c] 27)).alloc (.cells #[.int .u64 0, .slice none 0 0] 27))
  rw [HW.out, HBB.out, HG.out]
  clear HW
  go_wp2_with fail
  refine HUN.out.mono ?_
  rintro e w2 ⟨rfl, hb2⟩
  have HX02 := Lib.hid (old_below HX0.out hb2 (row_lt HX0.out))
  have HX12 := Lib.hid (old_below HX1.out hb2 (row_lt HX1.out))
  have HRS := Lib.hid (HRW.out.below hb2 (Nat.le_refl _))
  have HB2 := Lib.hid (HB1.out.trans (hb2.mono HB1.out.size))
  clear hb2 HUN HX0 HX1 HB1 HRW a0 a1
  obtain ⟨a0, a1⟩ := two_cells HX02.out
  go_wp2
  go_loopw [6, 21] (fun t6 t21 wr => ∃ i : Nat, i ≤ k ∧ t21 = .int .i64 (i : Int) ∧ Hid (wr.ownsRow w2.heap.size 3 1 t6 i (rowsOf inA ((T.take i).map (·.id)))) ∧ Hid (Below w2.heap.size w2 wr)) (fun _ t21 _ => k - (intOf t21).toNat)
  case atStart => exact ⟨0, Nat.zero_le _, rfl, Lib.hid (World.ownsRow_nil _ _ _ _), Lib.hid (Below.refl _ _)⟩
  case round =>
    obtain ⟨i, hi, rfl, HOD, HBW⟩ := hrel
    generalize u6 = v6 at HOD ⊢
    by_cases hlt : i < k
    · obtain ⟨x, hx⟩ : ∃ x, T[i]? = some x := ⟨_, List.getElem?_eq_getElem (by rw [HN.out]; omega)⟩
      obtain ⟨ad, rfl, hKA⟩ := el_all tmE HRS.out (by omega) hx
      have HEL : Hid (∀ (j : Nat) v, (tmA x)[j]? = some v → wr.cell? ((ad.add (i * 2)).add j) = some v) := hKA wr HBW.out
      have HRI := Lib.hid (id_rows hx)
      obtain ⟨w3, hw3⟩ : ∃ w3, wr.alloc (.cells (tmA x) 53) = w3 := ⟨_, rfl⟩
      have HY0 : Hid (w3.heap[wr.heap.size]? = some (.cells (tmA x) 53 (0, 0))) := by rw [← hw3]; exact heap_alloc_new wr _
      have HBR : Hid (Below wr.heap.size wr w3) := by rw [← hw3]; exact (Below.refl _ _).alloc (Nat.le_refl _) _
      have HB3 : Hid (Below w2.heap.size w2 w3) := HBW.out.trans (HBR.out.mono HBW.out.size)
      have HOD3 := Lib.hid (ownk_below HOD.out HBR.out (Nat.le_refl _))
      have HW3 := Lib.hid hw3
      have c0 : w3.cell? ⟨wr.heap.size, 0, none⟩ = some (.int .i64 x.id) := (cell_of_row _ _ _ _ _ _ HY0.out).trans (tmA_id x)
      have HSX : Hid ((tmA x).size = 2) := tmE.size x
      have HRO : Hid ((tmA x).all (·.oneCell') = true) := tmE.one x
      generalize x.id = y at HRI c0
      obtain ⟨CX, hCX⟩ : ∃ CX, tmA x = CX := ⟨_, rfl⟩
      rw [hCX] at HEL HSX HRO HY0 HW3
      clear hw3 hx hKA hCX a0 a1
      obtain ⟨i0, q0, q1, q2, q3⟩ := info_in1
      go_upto_region 7 with (first | (refine wpList_load_atA rfl 53 _ rfl (ad.add (i * 2)) rfl CX _ HEL.out Try.underlying53 rfl (by rw [HSX.out]; kernel_rfl) ?_) | (refine wpList_store_new rfl 53 _ _ rfl wr zeroW CX rfl rfl (by rw [HSX.out]; kernel_rfl) (by rw [HSX.out]; rfl) HRO.out ?_))
      change Code.wp _ _ _ _ (wr.alloc (.cells CX 53))
      rw [HW3.out]
      clear HW3
      go_wp2_with (at_builtin; refine wpList_append_elem rfl _ _ 43 rfl w2.heap.size 3 i0 _ 1 8 Try.underlying43 q0 q1 q2 q3 rfl (by decide) _ i _ rfl (ownk_below HOD3.out ((Below.refl _ _).alloc (Nat.le_refl _) _) (Nat.le_refl _)) _ 1 #[.int .i64 y] _ _ rfl (heap_alloc_new _ _) rfl (by intro u hu; simp at hu; subst hu; rfl) (by unfold maxLen; omega) (by omega) (by have := HB3.out.size; simp; omega) ?_; intro v8 w8 hown6 hgrow6 _; have HO8 := Lib.hid hown6; have HB8 : Hid (Below w2.heap.size w2 w8) := (HB3.out.alloc HB3.out.size _).grown hgrow6 (by have := HB3.out.size; simp; omega) fun g hg => (HOD3.out.lt g hg).1; clear hown6 hgrow6)
      go_roundw
      case rel => exact ⟨i + 1, by omega, by go_num, Lib.hid (by show World.ownsRow _ _ _ _ _ _ _; rw [HRI.out]; exact HO8.out), HB8⟩
      case measure => simp [intOf]; omega
    · obtain rfl : i = k := by omega
      have HXW := Lib.hid (old_below HX02.out HBW.out (row_lt HX02.out))
      have HGW := Lib.hid (old_below HX12.out HBW.out (row_lt HX12.out))
      have HBF := Lib.hid (HB2.out.trans (HBW.out.mono HB2.out.size))
      have HRD : Hid (Rd wr 0 wr.heap.size A (rowsOf tmA T)) := (HRS.out.below HBW.out (Nat.le_refl _)).rd
      have HLD : Hid ((T.drop i).length = n1 - i) := by show _ = _; rw [List.length_drop, HN.out]
      have hLK : (rowsOf tmA (T.drop i)).length = (n1 - i) * 2 := by rw [rows_length tmE, HLD.out]
      have HLK := Lib.hid hLK
      obtain ⟨A4, c4, rfl, -⟩ := ownk_form HOD.out
      clear a0 a1 hLK
      obtain ⟨a0, a1⟩ := two_cells HXW.out
      by_cases hck : c = i
      · obtain rfl : n1 = i := by omega
        obtain rfl : c = n1 := hck
        have HCL := Lib.hid (clW_any A (rowsOf tmA (T.drop c)) (c - c) (c - c) 0 wr.heap.size wr (by rw [List.drop_of_length_le (Nat.le_of_eq HN.out)]; exact Rd.nil) (Nat.le_refl _) HLK.out (rows_ones tmE _) (fun _ => by omega) (by omega))
        simp only [Nat.sub_self] at HCL
        go_wp2_with fail
        refine HCL.out.mono ?_
        rintro e w4 ⟨v4, rfl, ho, hb4⟩
        obtain ⟨A5, c5, rfl, -⟩ := ownk_form ho
        have HO4 := Lib.hid ho
        have HX4 := Lib.hid (old_below HGW.out hb4 (row_lt HGW.out))
        have HOD4 := Lib.hid (ownk_below HOD.out hb4 (Nat.le_refl _))
        have HB4 := Lib.hid (HBF.out.trans (hb4.mono HBF.out.size))
        clear ho hb4 HCL
        go_wp2_with (refine wpList_store_row rfl 27 _ _ rfl g #[.int .u64 ((n : Int) + 1), .slice A5 0 c5] rfl rfl 27 #[.int .u64 0, .slice none 0 0] HX4.out (by kernel_rfl) rfl (by simp [Value.oneCell']) ?_)
        refine ret_two (g := g) rfl rfl (setRow_heap _ _ _ _ _ _ HX4.out) Try.underlying27 rfl (by kernel_rfl) rfl ?_
        refine ⟨_, _, rfl, ⟨_, rfl, TlT.own (base := wr.heap.size) (k := 2) ?_⟩, TlT.own (base := w2.heap.size) (k := 1) ?_, below_setRow HB4.out (by have := HG.out; have := HBB.out; omega) _⟩
        · rw [HDA.out.2, HLD.out, Nat.sub_self]
          exact ownk_other HO4.out HX4.out (by decide) fun j hj => setRow_other _ _ _ _ hj
        · unfold dueX
          rw [HDA.out.1, List.length_map, List.length_take, HN.out, Nat.min_eq_left hkn]
          exact ownk_other HOD4.out HX4.out (by decide) fun j hj => setRow_other _ _ _ _ hj
      · have hlc : i < c := by omega
        obtain ⟨ad, rfl⟩ : ∃ ad, A = some ad := by
          rcases A with _ | ad
          · have := HA.out rfl
            omega
          · exact ⟨ad, rfl⟩
        have HCL := Lib.hid (clW_any (some (ad.add (i * 2))) (rowsOf tmA (T.drop i)) (n1 - i) (c - i) 0 wr.heap.size wr (by have := HRD.out.drop (i * 2); rwa [rows_drop tmE] at this) (Nat.le_refl _) HLK.out (rows_ones tmE _) (fun e => by cases e) (by omega))
        go_wp2_with fail
        refine HCL.out.mono ?_
        rintro e w4 ⟨v4, rfl, ho, hb4⟩
        obtain ⟨A5, c5, rfl, -⟩ := ownk_form ho
        have HO4 := Lib.hid ho
        have HX4 := Lib.hid (old_below HGW.out hb4 (row_lt HGW.out))
        have HOD4 := Lib.hid (ownk_below HOD.out hb4 (Nat.le_refl _))
        have HB4 := Lib.hid (HBF.out.trans (hb4.mono HBF.out.size))
        clear ho hb4 HCL
        go_wp2_with (refine wpList_store_row rfl 27 _ _ rfl g #[.int .u64 ((n : Int) + 1), .slice A5 (n1 - i) c5] rfl rfl 27 #[.int .u64 0, .slice none 0 0] HX4.out (by kernel_rfl) rfl (by simp [Value.oneCell']) ?_)
        refine ret_two (g := g) rfl rfl (setRow_heap _ _ _ _ _ _ HX4.out) Try.underlying27 rfl (by kernel_rfl) rfl ?_
        refine ⟨_, _, rfl, ⟨_, rfl, TlT.own (base := wr.heap.size) (k := 2) ?_⟩, TlT.own (base := w2.heap.size) (k := 1) ?_, below_setRow HB4.out (by have := HG.out; have := HBB.out; omega) _⟩
        · rw [HDA.out.2, HLD.out]
          exact ownk_other HO4.out HX4.out (by decide) fun j hj => setRow_other _ _ _ _ hj
        · unfold dueX
          rw [HDA.out.1, List.length_map, List.length_take, HN.out, Nat.min_eq_left hkn]
          exact ownk_other HOD4.out HX4.out (by decide) fun j hj => setRow_other _ _ _ _ hj
end Go.Proofs.Ytljochpomgjjeaa
