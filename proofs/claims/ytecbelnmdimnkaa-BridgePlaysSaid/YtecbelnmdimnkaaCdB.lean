/-
  The document's card: six bytes of a text. No condition but that they are there.
-/
import Derived.Test.YtecbelnmdimnkaaKnM
import Derived.Test.YtecbelnmdimnkaaRelyL
namespace Go.Proofs.Ytecbelnmdimnkaa
open Go.RowKit

theorem run_idxE {P : Program} {ev : Operand → Value} {o : Oper} {w : World} (t : TypeId) (x i : Operand) (ho : o.op = .index t x i) (hu : P.underlying t = some .string) {F : List UInt8} {j : Nat} (hx : ev x = .string ⟨F.toArray⟩) (hj : ev i = .int .i64 (j : Int)) {b : UInt8} (h : F[j]? = some b) :
    (execOp ev o).run P w = .ok (.value (.int .u8 (b.toNat : Int))) w := by
  have h1 := (List.getElem?_eq_some_iff.1 h).1
  have hb : (⟨F.toArray⟩ : ByteArray)[j]? = some b := by
    rw [getElem?_pos (⟨F.toArray⟩ : ByteArray) j (by show j < F.toArray.size; simpa using h1)]
    congr 1
    exact (List.getElem?_eq_some_iff.1 h).2
  unfold execOp
  simp [ho, hx, hj, Instr.index, asIntOf, run_underlying hu, hb]
set_option maxRecDepth 100000 in
set_option maxHeartbeats 4000000 in
theorem refcard_any (F : List UInt8) (i : Nat) (w : World) (h : i + 6 ≤ F.length) (hi : i ≤ 100000) : Calls Try.prog 23 #[.string ⟨F.toArray⟩, .int .i64 (i : Int)] w fun e w' => e = .returned (.agg (macA (macOf F i))) ∧ Below w.heap.size w w' := by
  have hF : ∀ k, k < 6 → F[i + k]? = some (F.getD (i + k) 0) := fun k hk => by
    rw [List.getD_eq_getElem?_getD, List.getElem?_eq_getElem (show i + k < F.length by omega)]
    rfl
  have hm : macOf F i = ⟨F.getD (i + 0) 0, F.getD (i + 1) 0, F.getD (i + 2) 0, F.getD (i + 3) 0, F.getD (i + 4) 0, F.getD (i + 5) 0⟩ := rfl
  have h0 := hF 0 (by decide)
  have h1 := hF 1 (by decide)
  have h2 := hF 2 (by decide)
  have h3 := hF 3 (by decide)
  have h4 := hF 4 (by decide)
  have h5 := hF 5 (by decide)
  rw [hm]
  clear hm hF
  generalize F.getD (i + 0) 0 = x0 at h0 ⊢
  generalize F.getD (i + 1) 0 = x1 at h1 ⊢
  generalize F.getD (i + 2) 0 = x2 at h2 ⊢
  generalize F.getD (i + 3) 0 = x3 at h3 ⊢
  generalize F.getD (i + 4) 0 = x4 at h4 ⊢
  generalize F.getD (i + 5) 0 = x5 at h5 ⊢
  have hW : ∀ k : Nat, k < 6 → IntKind.i64.wrap ((i : Int) + (k : Int)) = (i : Int) + (k : Int) := fun k hk => IntWalk.i64_in _ ⟨by omega, by omega⟩
  clear h hi
  go_enter Try.func23, Try.ntmps23
  go_upto_region 1 with (fail)
  have HN := Lib.hid (heap_alloc_new w (.cells Z6 46))
  have HB := Lib.hid ((Below.refl w.heap.size w).alloc (Nat.le_refl _) (.cells Z6 46))
  obtain ⟨w8, hw8⟩ : ∃ w8, w.alloc (.cells Z6 46) = w8 := ⟨_, rfl⟩
  rw [hw8] at HN HB
  change Code.wp _ _ _ _ (w.alloc (.cells Z6 46))
  rw [hw8]
  clear hw8
  apply wp_region_relyL [] (fun _ w' => Below w8.heap.size w8 w') (RL [Is (.string ⟨F.toArray⟩), Is (.int .i64 (i : Int)), Is (.int .u8 (x0.toNat : Int)), Is (.string ⟨F.toArray⟩), Is (.int .i64 (i : Int)), Is (.int .i64 ((i : Int) + 1)), Is (.int .u8 (x1.toNat : Int)), Is (.string ⟨F.toArray⟩), Is (.int .i64 (i : Int)), Is (.int .i64 ((i : Int) + 2)), Is (.int .u8 (x2.toNat : Int)), Is (.string ⟨F.toArray⟩), Is (.int .i64 (i : Int)), Is (.int .i64 ((i : Int) + 3)), Is (.int .u8 (x3.toNat : Int)), Is (.string ⟨F.toArray⟩), Is (.int .i64 (i : Int)), Is (.int .i64 ((i : Int) + 4)), Is (.int .u8 (x4.toNat : Int)), Is (.string ⟨F.toArray⟩), Is (.int .i64 (i : Int)), Is (.int .i64 ((i : Int) + 5)), Is (.int .u8 (x5.toNat : Int)), Is (.agg (macA ⟨x0, x1, x2, x3, x4, x5⟩))]) [false, false, false, false, false, true, true, true, true, true, true, true, true, true, true, true, true, true, true, true, true, true, true, true, true, true, true, true, true] _ rfl
  · kernel_rfl
  · kernel_rfl
  · kernel_rfl
  · kernel_rfl
  · refine ⟨?_, ?_, ?_, ?_, ?_, ?_, ?_, ?_, ?_, ?_, ?_, ?_, ?_, ?_, ?_, ?_, ?_, ?_, ?_, ?_, ?_, ?_, ?_, ?_, trivial⟩
    · intro L ev w' hC hL hx K hK
      have e0 : ev (.tmp 0) = _ := hx.base 0 (by kernel_rfl)
      have HK := Lib.hid hK
      have HC := Lib.hid hC
      have HL := Lib.hid hL
      have HX := Lib.hid hx
      have hc := hx.cst
      skip
      clear hx hK hC hL
      unfold Run
      simp [execOp, Upon, go_sem, *]
      exact HK.out _ _ (.inl ⟨Below.refl _ _, by decide⟩) rfl
    · intro L ev w' hC hL hx K hK
      have e1 : ev (.tmp 1) = _ := hx.base 1 (by kernel_rfl)
      have HK := Lib.hid hK
      have HC := Lib.hid hC
      have HL := Lib.hid hL
      have HX := Lib.hid hx
      have hc := hx.cst
      skip
      clear hx hK hC hL
      unfold Run
      simp [execOp, Upon, go_sem, *]
      exact HK.out _ _ (.inl ⟨Below.refl _ _, by decide⟩) rfl
    · intro L ev w' hC hL hx K hK
      have e5 := hx.held 0 _ rfl (by kernel_rfl)
      have e6 := hx.held 1 _ rfl (by kernel_rfl)
      change ev (.tmp 5) = _ at e5
      change ev (.tmp 6) = _ at e6
      have HK := Lib.hid hK
      have HC := Lib.hid hC
      have HL := Lib.hid hL
      have HX := Lib.hid hx
      have hc := hx.cst
      skip
      clear hx hK hC hL
      have q : ev (.tmp 6) = .int .i64 ((i + 0 : Nat) : Int) := by rw [e6]; rfl
      unfold Run
      rw [run_idxE 9 _ _ rfl Try.underlying9 e5 q h0]
      exact HK.out _ _ (.inl ⟨Below.refl _ _, by decide⟩) rfl
    · intro L ev w' hC hL hx K hK
      have e0 : ev (.tmp 0) = _ := hx.base 0 (by kernel_rfl)
      have HK := Lib.hid hK
      have HC := Lib.hid hC
      have HL := Lib.hid hL
      have HX := Lib.hid hx
      have hc := hx.cst
      skip
      clear hx hK hC hL
      unfold Run
      simp [execOp, Upon, go_sem, *]
      exact HK.out _ _ (.inl ⟨Below.refl _ _, by decide⟩) rfl
    · intro L ev w' hC hL hx K hK
      have e1 : ev (.tmp 1) = _ := hx.base 1 (by kernel_rfl)
      have HK := Lib.hid hK
      have HC := Lib.hid hC
      have HL := Lib.hid hL
      have HX := Lib.hid hx
      have hc := hx.cst
      skip
      clear hx hK hC hL
      unfold Run
      simp [execOp, Upon, go_sem, *]
      exact HK.out _ _ (.inl ⟨Below.refl _ _, by decide⟩) rfl
    · intro L ev w' hC hL hx K hK
      have e9 := hx.held 4 _ rfl (by kernel_rfl)
      change ev (.tmp 9) = _ at e9
      have HK := Lib.hid hK
      have HC := Lib.hid hC
      have HL := Lib.hid hL
      have HX := Lib.hid hx
      have hc := hx.cst
      skip
      clear hx hK hC hL
      have hw : IntKind.i64.wrap ((i : Int) + 1) = (i : Int) + 1 := hW 1 (by decide)
      unfold Run
      simp [execOp, Upon, go_sem, *]
      exact HK.out _ _ (.inl ⟨Below.refl _ _, by decide⟩) rfl
    · intro L ev w' hC hL hx K hK
      have e8 := hx.held 3 _ rfl (by kernel_rfl)
      have e10 := hx.held 5 _ rfl (by kernel_rfl)
      change ev (.tmp 8) = _ at e8
      change ev (.tmp 10) = _ at e10
      have HK := Lib.hid hK
      have HC := Lib.hid hC
      have HL := Lib.hid hL
      have HX := Lib.hid hx
      have hc := hx.cst
      skip
      clear hx hK hC hL
      have q : ev (.tmp 10) = .int .i64 ((i + 1 : Nat) : Int) := by rw [e10]; rfl
      unfold Run
      rw [run_idxE 9 _ _ rfl Try.underlying9 e8 q h1]
      exact HK.out _ _ (.inl ⟨Below.refl _ _, by decide⟩) rfl
    · intro L ev w' hC hL hx K hK
      have e0 : ev (.tmp 0) = _ := hx.base 0 (by kernel_rfl)
      have HK := Lib.hid hK
      have HC := Lib.hid hC
      have HL := Lib.hid hL
      have HX := Lib.hid hx
      have hc := hx.cst
      skip
      clear hx hK hC hL
      unfold Run
      simp [execOp, Upon, go_sem, *]
      exact HK.out _ _ (.inl ⟨Below.refl _ _, by decide⟩) rfl
    · intro L ev w' hC hL hx K hK
      have e1 : ev (.tmp 1) = _ := hx.base 1 (by kernel_rfl)
      have HK := Lib.hid hK
      have HC := Lib.hid hC
      have HL := Lib.hid hL
      have HX := Lib.hid hx
      have hc := hx.cst
      skip
      clear hx hK hC hL
      unfold Run
      simp [execOp, Upon, go_sem, *]
      exact HK.out _ _ (.inl ⟨Below.refl _ _, by decide⟩) rfl
    · intro L ev w' hC hL hx K hK
      have e13 := hx.held 8 _ rfl (by kernel_rfl)
      change ev (.tmp 13) = _ at e13
      have HK := Lib.hid hK
      have HC := Lib.hid hC
      have HL := Lib.hid hL
      have HX := Lib.hid hx
      have hc := hx.cst
      skip
      clear hx hK hC hL
      have hw : IntKind.i64.wrap ((i : Int) + 2) = (i : Int) + 2 := hW 2 (by decide)
      unfold Run
      simp [execOp, Upon, go_sem, *]
      exact HK.out _ _ (.inl ⟨Below.refl _ _, by decide⟩) rfl
    · intro L ev w' hC hL hx K hK
      have e12 := hx.held 7 _ rfl (by kernel_rfl)
      have e14 := hx.held 9 _ rfl (by kernel_rfl)
      change ev (.tmp 12) = _ at e12
      change ev (.tmp 14) = _ at e14
      have HK := Lib.hid hK
      have HC := Lib.hid hC
      have HL := Lib.hid hL
      have HX := Lib.hid hx
      have hc := hx.cst
      skip
      clear hx hK hC hL
      have q : ev (.tmp 14) = .int .i64 ((i + 2 : Nat) : Int) := by rw [e14]; rfl
      unfold Run
      rw [run_idxE 9 _ _ rfl Try.underlying9 e12 q h2]
      exact HK.out _ _ (.inl ⟨Below.refl _ _, by decide⟩) rfl
    · intro L ev w' hC hL hx K hK
      have e0 : ev (.tmp 0) = _ := hx.base 0 (by kernel_rfl)
      have HK := Lib.hid hK
      have HC := Lib.hid hC
      have HL := Lib.hid hL
      have HX := Lib.hid hx
      have hc := hx.cst
      skip
      clear hx hK hC hL
      unfold Run
      simp [execOp, Upon, go_sem, *]
      exact HK.out _ _ (.inl ⟨Below.refl _ _, by decide⟩) rfl
    · intro L ev w' hC hL hx K hK
      have e1 : ev (.tmp 1) = _ := hx.base 1 (by kernel_rfl)
      have HK := Lib.hid hK
      have HC := Lib.hid hC
      have HL := Lib.hid hL
      have HX := Lib.hid hx
      have hc := hx.cst
      skip
      clear hx hK hC hL
      unfold Run
      simp [execOp, Upon, go_sem, *]
      exact HK.out _ _ (.inl ⟨Below.refl _ _, by decide⟩) rfl
    · intro L ev w' hC hL hx K hK
      have e17 := hx.held 12 _ rfl (by kernel_rfl)
      change ev (.tmp 17) = _ at e17
      have HK := Lib.hid hK
      have HC := Lib.hid hC
      have HL := Lib.hid hL
      have HX := Lib.hid hx
      have hc := hx.cst
      skip
      clear hx hK hC hL
      have hw : IntKind.i64.wrap ((i : Int) + 3) = (i : Int) + 3 := hW 3 (by decide)
      unfold Run
      simp [execOp, Upon, go_sem, *]
      exact HK.out _ _ (.inl ⟨Below.refl _ _, by decide⟩) rfl
    · intro L ev w' hC hL hx K hK
      have e16 := hx.held 11 _ rfl (by kernel_rfl)
      have e18 := hx.held 13 _ rfl (by kernel_rfl)
      change ev (.tmp 16) = _ at e16
      change ev (.tmp 18) = _ at e18
      have HK := Lib.hid hK
      have HC := Lib.hid hC
      have HL := Lib.hid hL
      have HX := Lib.hid hx
      have hc := hx.cst
      skip
      clear hx hK hC hL
      have q : ev (.tmp 18) = .int .i64 ((i + 3 : Nat) : Int) := by rw [e18]; rfl
      unfold Run
      rw [run_idxE 9 _ _ rfl Try.underlying9 e16 q h3]
      exact HK.out _ _ (.inl ⟨Below.refl _ _, by decide⟩) rfl
    · intro L ev w' hC hL hx K hK
      have e0 : ev (.tmp 0) = _ := hx.base 0 (by kernel_rfl)
      have HK := Lib.hid hK
      have HC := Lib.hid hC
      have HL := Lib.hid hL
      have HX := Lib.hid hx
      have hc := hx.cst
      skip
      clear hx hK hC hL
      unfold Run
      simp [execOp, Upon, go_sem, *]
      exact HK.out _ _ (.inl ⟨Below.refl _ _, by decide⟩) rfl
    · intro L ev w' hC hL hx K hK
      have e1 : ev (.tmp 1) = _ := hx.base 1 (by kernel_rfl)
      have HK := Lib.hid hK
      have HC := Lib.hid hC
      have HL := Lib.hid hL
      have HX := Lib.hid hx
      have hc := hx.cst
      skip
      clear hx hK hC hL
      unfold Run
      simp [execOp, Upon, go_sem, *]
      exact HK.out _ _ (.inl ⟨Below.refl _ _, by decide⟩) rfl
    · intro L ev w' hC hL hx K hK
      have e21 := hx.held 16 _ rfl (by kernel_rfl)
      change ev (.tmp 21) = _ at e21
      have HK := Lib.hid hK
      have HC := Lib.hid hC
      have HL := Lib.hid hL
      have HX := Lib.hid hx
      have hc := hx.cst
      skip
      clear hx hK hC hL
      have hw : IntKind.i64.wrap ((i : Int) + 4) = (i : Int) + 4 := hW 4 (by decide)
      unfold Run
      simp [execOp, Upon, go_sem, *]
      exact HK.out _ _ (.inl ⟨Below.refl _ _, by decide⟩) rfl
    · intro L ev w' hC hL hx K hK
      have e20 := hx.held 15 _ rfl (by kernel_rfl)
      have e22 := hx.held 17 _ rfl (by kernel_rfl)
      change ev (.tmp 20) = _ at e20
      change ev (.tmp 22) = _ at e22
      have HK := Lib.hid hK
      have HC := Lib.hid hC
      have HL := Lib.hid hL
      have HX := Lib.hid hx
      have hc := hx.cst
      skip
      clear hx hK hC hL
      have q : ev (.tmp 22) = .int .i64 ((i + 4 : Nat) : Int) := by rw [e22]; rfl
      unfold Run
      rw [run_idxE 9 _ _ rfl Try.underlying9 e20 q h4]
      exact HK.out _ _ (.inl ⟨Below.refl _ _, by decide⟩) rfl
    · intro L ev w' hC hL hx K hK
      have e0 : ev (.tmp 0) = _ := hx.base 0 (by kernel_rfl)
      have HK := Lib.hid hK
      have HC := Lib.hid hC
      have HL := Lib.hid hL
      have HX := Lib.hid hx
      have hc := hx.cst
      skip
      clear hx hK hC hL
      unfold Run
      simp [execOp, Upon, go_sem, *]
      exact HK.out _ _ (.inl ⟨Below.refl _ _, by decide⟩) rfl
    · intro L ev w' hC hL hx K hK
      have e1 : ev (.tmp 1) = _ := hx.base 1 (by kernel_rfl)
      have HK := Lib.hid hK
      have HC := Lib.hid hC
      have HL := Lib.hid hL
      have HX := Lib.hid hx
      have hc := hx.cst
      skip
      clear hx hK hC hL
      unfold Run
      simp [execOp, Upon, go_sem, *]
      exact HK.out _ _ (.inl ⟨Below.refl _ _, by decide⟩) rfl
    · intro L ev w' hC hL hx K hK
      have e25 := hx.held 20 _ rfl (by kernel_rfl)
      change ev (.tmp 25) = _ at e25
      have HK := Lib.hid hK
      have HC := Lib.hid hC
      have HL := Lib.hid hL
      have HX := Lib.hid hx
      have hc := hx.cst
      skip
      clear hx hK hC hL
      have hw : IntKind.i64.wrap ((i : Int) + 5) = (i : Int) + 5 := hW 5 (by decide)
      unfold Run
      simp [execOp, Upon, go_sem, *]
      exact HK.out _ _ (.inl ⟨Below.refl _ _, by decide⟩) rfl
    · intro L ev w' hC hL hx K hK
      have e24 := hx.held 19 _ rfl (by kernel_rfl)
      have e26 := hx.held 21 _ rfl (by kernel_rfl)
      change ev (.tmp 24) = _ at e24
      change ev (.tmp 26) = _ at e26
      have HK := Lib.hid hK
      have HC := Lib.hid hC
      have HL := Lib.hid hL
      have HX := Lib.hid hx
      have hc := hx.cst
      skip
      clear hx hK hC hL
      have q : ev (.tmp 26) = .int .i64 ((i + 5 : Nat) : Int) := by rw [e26]; rfl
      unfold Run
      rw [run_idxE 9 _ _ rfl Try.underlying9 e24 q h5]
      exact HK.out _ _ (.inl ⟨Below.refl _ _, by decide⟩) rfl
    · intro L ev w' hC hL hx K hK
      have e7 := hx.held 2 _ rfl (by kernel_rfl)
      have e11 := hx.held 6 _ rfl (by kernel_rfl)
      have e15 := hx.held 10 _ rfl (by kernel_rfl)
      have e19 := hx.held 14 _ rfl (by kernel_rfl)
      have e23 := hx.held 18 _ rfl (by kernel_rfl)
      have e27 := hx.held 22 _ rfl (by kernel_rfl)
      change ev (.tmp 7) = _ at e7
      change ev (.tmp 11) = _ at e11
      change ev (.tmp 15) = _ at e15
      change ev (.tmp 19) = _ at e19
      change ev (.tmp 23) = _ at e23
      change ev (.tmp 27) = _ at e27
      have HK := Lib.hid hK
      have HC := Lib.hid hC
      have HL := Lib.hid hL
      have HX := Lib.hid hx
      have hc := hx.cst
      skip
      clear hx hK hC hL
      unfold Run
      simp [execOp, Upon, go_sem, *]
      exact HK.out _ _ (.inl ⟨Below.refl _ _, by decide⟩) rfl
  · exact rl_mono ⟨is_mono _, is_mono _, is_mono _, is_mono _, is_mono _, is_mono _, is_mono _, is_mono _, is_mono _, is_mono _, is_mono _, is_mono _, is_mono _, is_mono _, is_mono _, is_mono _, is_mono _, is_mono _, is_mono _, is_mono _, is_mono _, is_mono _, is_mono _, is_mono _, trivial⟩
  · exact fun _ _ _ _ h => h
  · exact fun _ w1 w2 hb h => h.trans (hb.mono h.size)
  · exact Below.refl _ _
  · simp
  intro us wr hG hH
  obtain ⟨-, -, -, -, -, -, -, -, -, -, -, -, -, -, -, -, -, -, -, -, -, -, -, h23, -⟩ := hH
  simp only [fillM]
  change us 28 = _ at h23
  rw [h23]
  clear h23
  generalize us 5 = v5
  generalize us 6 = v6
  generalize us 7 = v7
  generalize us 8 = v8
  generalize us 9 = v9
  generalize us 10 = v10
  generalize us 11 = v11
  generalize us 12 = v12
  generalize us 13 = v13
  generalize us 14 = v14
  generalize us 15 = v15
  generalize us 16 = v16
  generalize us 17 = v17
  generalize us 18 = v18
  generalize us 19 = v19
  generalize us 20 = v20
  generalize us 21 = v21
  generalize us 22 = v22
  generalize us 23 = v23
  generalize us 24 = v24
  generalize us 25 = v25
  generalize us 26 = v26
  generalize us 27 = v27
  refine wp_store_row 46 (.tmp 4) (.tmp 28) rfl w.heap.size (macA ⟨x0, x1, x2, x3, x4, x5⟩) rfl rfl 46 Z6 (old_below HN.out hG (row_lt HN.out)) (by kernel_rfl) rfl (macA_one _) ?_
  simp only [Act.put]
  have HE := Lib.hid (setRow_heap wr w.heap.size _ (macA ⟨x0, x1, x2, x3, x4, x5⟩) _ _ (old_below HN.out hG (row_lt HN.out)))
  have HZ : Hid (Below w.heap.size w (wr.setRow w.heap.size (macA ⟨x0, x1, x2, x3, x4, x5⟩))) := below_setRow (HB.out.trans (hG.mono HB.out.size)) (Nat.le_refl _) _
  clear hG
  go_wp2_with fail
  refine ret_one (g := w.heap.size) rfl rfl HE.out Try.underlying46 rfl (by kernel_rfl) rfl ?_
  exact ⟨rfl, HZ.out⟩
end Go.Proofs.Ytecbelnmdimnkaa
