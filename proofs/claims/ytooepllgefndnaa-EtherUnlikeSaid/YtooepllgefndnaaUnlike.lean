/-
  EtherUnlike returns true for every two frames, every two Arps and every int, and turns nothing that was there. Its first statement makes four variables, in whatever order: unlike_walk's 'first'.
-/
import Derived.Test.YtooepllgefndnaaHold
import Derived.Test.YtooepllgefndnaaReads
import Derived.Test.YtooepllgefndnaaBuilds
import Derived.Test.YtooepllgefndnaaArps
import Derived.Test.YtooepllgefndnaaParses
import Derived.Deep.QuietTactic
import Derived.BigQuiet
import Derived.Lib.QuietBelow
import Derived.Deep.MidRow
import Derived.Deep.RegionHeld
import Derived.Deep.DeepCutAuto
namespace Go.Proofs.Ytooepllgefndnaa
open Go.RowKit

/-- the four variables, and what lies in them -/
def Cut1 (F1 F2 R1 R2 : List Value) (w : World) (p q r s : Value) (wx : World) : Prop :=
  ∃ g7 g8 g9 g10 : Nat, p = .pointer (some ⟨g7, 0, none⟩) ∧ q = .pointer (some ⟨g8, 0, none⟩) ∧ r = .pointer (some ⟨g9, 0, none⟩) ∧ s = .pointer (some ⟨g10, 0, none⟩) ∧
    wx.heap[g7]? = some (.cells F1.toArray 27 (0, 0)) ∧ wx.heap[g8]? = some (.cells F2.toArray 27 (0, 0)) ∧ wx.heap[g9]? = some (.cells R1.toArray 44 (0, 0)) ∧ wx.heap[g10]? = some (.cells R2.toArray 44 (0, 0)) ∧ Below w.heap.size w wx

theorem range_left {w : World} {b : Nat} {t : TypeId} {xs ys : List Value} (h : w.heap[b]? = some (.cells (xs ++ ys).toArray t (0, 0))) : w.rangeAt b 0 xs := fun j v hv => by
  rw [cell_of_row _ _ _ _ _ _ h, Nat.zero_add, List.getElem?_toArray, List.getElem?_append_left (List.getElem?_eq_some_iff.1 hv).1]
  exact hv
theorem range_right {w : World} {b n : Nat} {t : TypeId} {xs ys : List Value} (h : w.heap[b]? = some (.cells (xs ++ ys).toArray t (0, 0))) (hn : xs.length = n) : w.rangeAt b n ys := fun j v hv => by
  rw [cell_of_row _ _ _ _ _ _ h, List.getElem?_toArray, List.getElem?_append_right (by omega), show n + j - xs.length = j from by omega]
  exact hv

theorem wrap_small (k : Nat) (h : k ≤ 27) : wrap64 (k : Int) = (k : Int) := by
  unfold wrap64
  omega
theorem u64_range (z : Int) : 0 ≤ IntKind.u64.wrap z ∧ IntKind.u64.wrap z ≤ 18446744073709551615 := by
  rw [IntKind.wrap_u64]
  omega
theorem rem_small (z : Int) (n : Nat) (h : 0 < n) : ∃ k : Nat, z % (n : Int) = (k : Int) ∧ k ≤ n - 1 := by
  have h1 := Int.emod_nonneg z (show (n : Int) ≠ 0 by omega)
  have h2 := Int.emod_lt_of_pos z (show (0 : Int) < n by omega)
  obtain ⟨k, hk⟩ := Int.eq_ofNat_of_zero_le h1
  exact ⟨k, hk, by omega⟩
theorem quiet_load_row {P : Program} {ops : Array Oper} {C : World → Prop} {K : Act → Prop} {o : Oper} {a : Act} (hg : Region.wanted o (yielded ops a.tmps) = true) (ty : TypeId) (x : Operand) (ho : o.op = .load ty x) (g : Nat) (hx : a.eval x = .pointer (some ⟨g, 0, none⟩)) (t : TypeId) (cs : Array Value) (fr : Nat × Nat) (d : TypeDesc)
    (hgg : ∀ w, C w → w.heap[g]? = some (.cells cs t fr)) (hu : P.underlying ty = some d) (hd : d.isRow = true) (hi : (P.info? ty).map (·.size) = some cs.size) (h : K (a.put o.dst (.agg cs))) :
    if Region.wanted o (yielded ops a.tmps) = true then o.quiet P a C K else K (a.put o.dst undef) := by
  rw [if_pos hg]
  refine ⟨.agg cs, fun w hw => ?_, h⟩
  have hl := run_loadVar_row (P := P) w g t ty cs fr d (hgg w hw) hu (by cases d <;> first | rfl | cases hd) hi
  unfold Oper.quietAt execOp
  simp only [ho, hx, Instr.loadAt, Instr.sureAddr, Sem.run_bind, Sem.run_pure, Result.andThen_ok, hl]
  exact ⟨rfl, rfl⟩

set_option maxRecDepth 100000 in
set_option maxHeartbeats 4000000 in
theorem unlike_walk (F1 F2 R1 R2 : List Value) (f g : Fr) (a b : Ar) (z : Int) (w : World) (hf : FrV w 0 w.heap.size F1.toArray f) (hg : FrV w 0 w.heap.size F2.toArray g) (ha : ArV R1.toArray a) (hb : ArV R2.toArray b) :
    Calls Try.prog 7 #[.agg (F1 ++ F2).toArray, .agg (R1 ++ R2).toArray, .int .i64 z] w fun e w' => e = .returned (.bool true) ∧ Below w.heap.size w w' := by
  have h1 : F1.length = 14 := by simpa using hf.size
  have h2 : F2.length = 14 := by simpa using hg.size
  have h3 : R1.length = 21 := by simpa using ha.size
  have h4 : R2.length = 21 := by simpa using hb.size
  have o1 := hf.one
  have o2 := hg.one
  have o3 := ha.one
  have o4 := hb.one
  have HF := Lib.hid hf
  have HG := Lib.hid hg
  have HA := Lib.hid ha
  have HBB := Lib.hid hb
  have Hf1 := Lib.hid (And.intro (size_fr (cs := F1.toArray) (by simpa using h1)) (And.intro (show (#[.int .u8 0, .int .u8 0, .int .u8 0, .int .u8 0, .int .u8 0, .int .u8 0, .int .u8 0, .int .u8 0, .int .u8 0, .int .u8 0, .int .u8 0, .int .u8 0, .int .u16 0, .slice none 0 0] : Array Value).size = F1.toArray.size by simp [h1]) o1))
  have Hf2 := Lib.hid (And.intro (size_fr (cs := F2.toArray) (by simpa using h2)) (And.intro (show (#[.int .u8 0, .int .u8 0, .int .u8 0, .int .u8 0, .int .u8 0, .int .u8 0, .int .u8 0, .int .u8 0, .int .u8 0, .int .u8 0, .int .u8 0, .int .u8 0, .int .u16 0, .slice none 0 0] : Array Value).size = F2.toArray.size by simp [h2]) o2))
  have Hr1 := Lib.hid (And.intro (size_ar (cs := R1.toArray) (by simpa using h3)) (And.intro (show (#[.int .i64 0, .int .u8 0, .int .u8 0, .int .u8 0, .int .u8 0, .int .u8 0, .int .u8 0, .int .u8 0, .int .u8 0, .int .u8 0, .int .u8 0, .int .u8 0, .int .u8 0, .int .u8 0, .int .u8 0, .int .u8 0, .int .u8 0, .int .u8 0, .int .u8 0, .int .u8 0, .int .u8 0] : Array Value).size = R1.toArray.size by simp [h3]) o3))
  have Hr2 := Lib.hid (And.intro (size_ar (cs := R2.toArray) (by simpa using h4)) (And.intro (show (#[.int .i64 0, .int .u8 0, .int .u8 0, .int .u8 0, .int .u8 0, .int .u8 0, .int .u8 0, .int .u8 0, .int .u8 0, .int .u8 0, .int .u8 0, .int .u8 0, .int .u8 0, .int .u8 0, .int .u8 0, .int .u8 0, .int .u8 0, .int .u8 0, .int .u8 0, .int .u8 0, .int .u8 0] : Array Value).size = R2.toArray.size by simp [h4]) o4))
  have HB2 := Lib.hid (((Below.refl w.heap.size w).alloc (Nat.le_refl _) (.cells (F1 ++ F2).toArray 52)).alloc (by simp) (.cells (R1 ++ R2).toArray 53))
  have HC2 := Lib.hid (old_alloc (heap_alloc_new w (.cells (F1 ++ F2).toArray 52)) (.cells (R1 ++ R2).toArray 53))
  have hd2 := heap_alloc_new (w.alloc (.cells (F1 ++ F2).toArray 52)) (.cells (R1 ++ R2).toArray 53)
  rw [World.size_alloc] at hd2
  have HD2 := Lib.hid hd2
  have H14 := Lib.hid (And.intro h1 h3)
  generalize hCC : (F1 ++ F2).toArray = CC at HB2 HC2 HD2 ⊢
  generalize hDD : (R1 ++ R2).toArray = DD at HB2 HC2 HD2 ⊢
  have HCC := Lib.hid hCC
  have HDD := Lib.hid hDD
  clear h1 h2 h3 h4 o1 o2 o3 o4 hd2 hCC hDD hf hg ha hb
  go_enter Try.func7, Try.ntmps7
  go_upto_region 1 with (fail)
  generalize (w.alloc (.cells CC 52)).alloc (.cells DD 53) = w2 at HB2 HC2 HD2 ⊢
  go_cut [7, 8, 9, 10] (fun p q r s wx => Cut1 F1 F2 R1 R2 w p q r s wx)
  case first =>
    have hHeld : Below w2.heap.size w2 w2.drew := (Below.refl _ _).drew
    have hSa : ∀ w', Below w2.heap.size w2 w' → w'.rangeAt w.heap.size 0 F1 := fun w' hb => range_left (by rw [HCC.out]; exact (hb.block _ (row_lt HC2.out)).trans HC2.out)
    have hSb : ∀ w', Below w2.heap.size w2 w' → w'.rangeAt w.heap.size 14 F2 := fun w' hb => range_right (by rw [HCC.out]; exact (hb.block _ (row_lt HC2.out)).trans HC2.out) H14.out.1
    have hSc : ∀ w', Below w2.heap.size w2 w' → w'.rangeAt (w.heap.size + 1) 0 R1 := fun w' hb => range_left (by rw [HDD.out]; exact (hb.block _ (row_lt HD2.out)).trans HD2.out)
    have hSd : ∀ w', Below w2.heap.size w2 w' → w'.rangeAt (w.heap.size + 1) 21 R2 := fun w' hb => range_right (by rw [HDD.out]; exact (hb.block _ (row_lt HD2.out)).trans HD2.out) H14.out.2
    refine wp_region_held_drew (S := fun w' => Below w2.heap.size w2 w') (by kernel_rfl) hHeld (fun _ => ?_)
    generalize w2.drew = wd at hHeld ⊢
    (refine wpAnyH_take (i := 0) (oi := ?_) (v := ?_) (by simp only [List.getElem?_toArray, List.getElem?_cons_zero]; rfl) (by kernel_rfl) (by decide +kernel) (by decide +kernel) (by exact fun _ _ _ h => h) (Or.inl ⟨by rfl, ?_⟩) (by assumption) ?_; rotate_left; (focus (intro w hSw; go_simp; (try with_reducible rfl); done)); (try simp only [Act.put, List.setIfInBounds_toArray, List.set_cons_zero, List.set_cons_succ]))
    refine wpAnyH_take (i := 1) (oi := ?_) (v := .agg F1.toArray) (by simp only [List.getElem?_toArray, List.getElem?_cons_zero, List.getElem?_cons_succ]; rfl) (by kernel_rfl) (by decide +kernel) (by decide +kernel) (by exact fun _ _ _ h => h) (yieldsIf_load_mid (by rfl) 27 _ (by rfl) (w.heap.size) 0 (by rfl) F1 _ hSa Try.underlying27 rfl Hf1.out.1) hHeld ?_
    (try simp only [Act.put, List.setIfInBounds_toArray, List.set_cons_zero, List.set_cons_succ])
    (refine wpAnyH_take (i := 2) (oi := ?_) (v := ?_) (by simp only [List.getElem?_toArray, List.getElem?_cons_zero, List.getElem?_cons_succ]; rfl) (by kernel_rfl) (by decide +kernel) (by decide +kernel) (by exact fun _ _ _ h => h) (Or.inl ⟨by rfl, ?_⟩) (by assumption) ?_; rotate_left; (focus (intro w hSw; go_simp; (try with_reducible rfl); done)); (try simp only [Act.put, List.setIfInBounds_toArray, List.set_cons_zero, List.set_cons_succ]))
    refine wpAnyH_take (i := 3) (oi := ?_) (v := .agg F2.toArray) (by simp only [List.getElem?_toArray, List.getElem?_cons_zero, List.getElem?_cons_succ]; rfl) (by kernel_rfl) (by decide +kernel) (by decide +kernel) (by exact fun _ _ _ h => h) (yieldsIf_load_mid (by rfl) 27 _ (by rfl) (w.heap.size) 14 (by rfl) F2 _ hSb Try.underlying27 rfl Hf2.out.1) hHeld ?_
    (try simp only [Act.put, List.setIfInBounds_toArray, List.set_cons_zero, List.set_cons_succ])
    (refine wpAnyH_take (i := 4) (oi := ?_) (v := ?_) (by simp only [List.getElem?_toArray, List.getElem?_cons_zero, List.getElem?_cons_succ]; rfl) (by kernel_rfl) (by decide +kernel) (by decide +kernel) (by exact fun _ _ _ h => h) (Or.inl ⟨by rfl, ?_⟩) (by assumption) ?_; rotate_left; (focus (intro w hSw; go_simp; (try with_reducible rfl); done)); (try simp only [Act.put, List.setIfInBounds_toArray, List.set_cons_zero, List.set_cons_succ]))
    refine wpAnyH_take (i := 5) (oi := ?_) (v := .agg R1.toArray) (by simp only [List.getElem?_toArray, List.getElem?_cons_zero, List.getElem?_cons_succ]; rfl) (by kernel_rfl) (by decide +kernel) (by decide +kernel) (by exact fun _ _ _ h => h) (yieldsIf_load_mid (by rfl) 44 _ (by rfl) (w.heap.size + 1) 0 (by rfl) R1 _ hSc Try.underlying44 rfl Hr1.out.1) hHeld ?_
    (try simp only [Act.put, List.setIfInBounds_toArray, List.set_cons_zero, List.set_cons_succ])
    (refine wpAnyH_take (i := 6) (oi := ?_) (v := ?_) (by simp only [List.getElem?_toArray, List.getElem?_cons_zero, List.getElem?_cons_succ]; rfl) (by kernel_rfl) (by decide +kernel) (by decide +kernel) (by exact fun _ _ _ h => h) (Or.inl ⟨by rfl, ?_⟩) (by assumption) ?_; rotate_left; (focus (intro w hSw; go_simp; (try with_reducible rfl); done)); (try simp only [Act.put, List.setIfInBounds_toArray, List.set_cons_zero, List.set_cons_succ]))
    refine wpAnyH_take (i := 7) (oi := ?_) (v := .agg R2.toArray) (by simp only [List.getElem?_toArray, List.getElem?_cons_zero, List.getElem?_cons_succ]; rfl) (by kernel_rfl) (by decide +kernel) (by decide +kernel) (by exact fun _ _ _ h => h) (yieldsIf_load_mid (by rfl) 44 _ (by rfl) (w.heap.size + 1) 21 (by rfl) R2 _ hSd Try.underlying44 rfl Hr2.out.1) hHeld ?_
    (try simp only [Act.put, List.setIfInBounds_toArray, List.set_cons_zero, List.set_cons_succ])
    refine wpAnyH_ready (rs := [8, 9, 10, 11]) (by decide +kernel) (by simp) ?_
    refine AllReadyH.cons (o := ?_) (by simp only [List.getElem?_toArray, List.getElem?_cons_zero, List.getElem?_cons_succ]; rfl) (fun K hK => ?_) ?_
    · go_simp
      have hr8 := heap_alloc_new wd (.cells #[.int .u8 0, .int .u8 0, .int .u8 0, .int .u8 0, .int .u8 0, .int .u8 0, .int .u8 0, .int .u8 0, .int .u8 0, .int .u8 0, .int .u8 0, .int .u8 0, .int .u16 0, .slice none 0 0] 27)
      have hw8 := hHeld.size
      refine hK.out _ _ (hHeld.alloc hHeld.size _) (fun hNew => ?_)
      clear hK K hHeld
      have hHeld := hNew
      clear hNew
      (try simp only [Act.put, List.setIfInBounds_toArray, List.set_cons_zero, List.set_cons_succ])
      generalize hgg : wd.heap.size = g8 at hr8 hw8  ⊢
      generalize hvv : wd.alloc (.cells #[.int .u8 0, .int .u8 0, .int .u8 0, .int .u8 0, .int .u8 0, .int .u8 0, .int .u8 0, .int .u8 0, .int .u8 0, .int .u8 0, .int .u8 0, .int .u8 0, .int .u16 0, .slice none 0 0] 27) = ww1 at hr8 hHeld ⊢
      clear hgg hvv
      refine wpAnyH_ready (rs := [9, 10, 11]) (by decide +kernel) (by simp) ?_
      refine AllReadyH.cons (o := ?_) (by simp only [List.getElem?_toArray, List.getElem?_cons_zero, List.getElem?_cons_succ]; rfl) (fun K hK => ?_) ?_
      · go_simp
        have hl89 := row_lt hr8
        have hr9 := heap_alloc_new ww1 (.cells #[.int .u8 0, .int .u8 0, .int .u8 0, .int .u8 0, .int .u8 0, .int .u8 0, .int .u8 0, .int .u8 0, .int .u8 0, .int .u8 0, .int .u8 0, .int .u8 0, .int .u16 0, .slice none 0 0] 27)
        have hw9 := hHeld.size
        have hr8 := old_alloc hr8 (.cells #[.int .u8 0, .int .u8 0, .int .u8 0, .int .u8 0, .int .u8 0, .int .u8 0, .int .u8 0, .int .u8 0, .int .u8 0, .int .u8 0, .int .u8 0, .int .u8 0, .int .u16 0, .slice none 0 0] 27)
        refine hK.out _ _ (hHeld.alloc hHeld.size _) (fun hNew => ?_)
        clear hK K hHeld
        have hHeld := hNew
        clear hNew
        (try simp only [Act.put, List.setIfInBounds_toArray, List.set_cons_zero, List.set_cons_succ])
        generalize hgg : ww1.heap.size = g9 at hr9 hw9 hl89 ⊢
        generalize hvv : ww1.alloc (.cells #[.int .u8 0, .int .u8 0, .int .u8 0, .int .u8 0, .int .u8 0, .int .u8 0, .int .u8 0, .int .u8 0, .int .u8 0, .int .u8 0, .int .u8 0, .int .u8 0, .int .u16 0, .slice none 0 0] 27) = ww2 at hr8 hr9 hHeld ⊢
        clear hgg hvv
        refine wpAnyH_ready (rs := [10, 11]) (by decide +kernel) (by simp) ?_
        refine AllReadyH.cons (o := ?_) (by simp only [List.getElem?_toArray, List.getElem?_cons_zero, List.getElem?_cons_succ]; rfl) (fun K hK => ?_) ?_
        · go_simp
          have hl810 := row_lt hr8
          have hl910 := row_lt hr9
          have hr10 := heap_alloc_new ww2 (.cells #[.int .i64 0, .int .u8 0, .int .u8 0, .int .u8 0, .int .u8 0, .int .u8 0, .int .u8 0, .int .u8 0, .int .u8 0, .int .u8 0, .int .u8 0, .int .u8 0, .int .u8 0, .int .u8 0, .int .u8 0, .int .u8 0, .int .u8 0, .int .u8 0, .int .u8 0, .int .u8 0, .int .u8 0] 44)
          have hw10 := hHeld.size
          have hr8 := old_alloc hr8 (.cells #[.int .i64 0, .int .u8 0, .int .u8 0, .int .u8 0, .int .u8 0, .int .u8 0, .int .u8 0, .int .u8 0, .int .u8 0, .int .u8 0, .int .u8 0, .int .u8 0, .int .u8 0, .int .u8 0, .int .u8 0, .int .u8 0, .int .u8 0, .int .u8 0, .int .u8 0, .int .u8 0, .int .u8 0] 44)
          have hr9 := old_alloc hr9 (.cells #[.int .i64 0, .int .u8 0, .int .u8 0, .int .u8 0, .int .u8 0, .int .u8 0, .int .u8 0, .int .u8 0, .int .u8 0, .int .u8 0, .int .u8 0, .int .u8 0, .int .u8 0, .int .u8 0, .int .u8 0, .int .u8 0, .int .u8 0, .int .u8 0, .int .u8 0, .int .u8 0, .int .u8 0] 44)
          refine hK.out _ _ (hHeld.alloc hHeld.size _) (fun hNew => ?_)
          clear hK K hHeld
          have hHeld := hNew
          clear hNew
          (try simp only [Act.put, List.setIfInBounds_toArray, List.set_cons_zero, List.set_cons_succ])
          generalize hgg : ww2.heap.size = g10 at hr10 hw10 hl810 hl910 ⊢
          generalize hvv : ww2.alloc (.cells #[.int .i64 0, .int .u8 0, .int .u8 0, .int .u8 0, .int .u8 0, .int .u8 0, .int .u8 0, .int .u8 0, .int .u8 0, .int .u8 0, .int .u8 0, .int .u8 0, .int .u8 0, .int .u8 0, .int .u8 0, .int .u8 0, .int .u8 0, .int .u8 0, .int .u8 0, .int .u8 0, .int .u8 0] 44) = ww3 at hr8 hr9 hr10 hHeld ⊢
          clear hgg hvv
          refine wpAnyH_ready (rs := [11]) (by decide +kernel) (by simp) ?_
          refine AllReadyH.cons (o := ?_) (by simp only [List.getElem?_toArray, List.getElem?_cons_zero, List.getElem?_cons_succ]; rfl) (fun K hK => ?_) ?_
          · go_simp
            have hl811 := row_lt hr8
            have hl911 := row_lt hr9
            have hl1011 := row_lt hr10
            have hr11 := heap_alloc_new ww3 (.cells #[.int .i64 0, .int .u8 0, .int .u8 0, .int .u8 0, .int .u8 0, .int .u8 0, .int .u8 0, .int .u8 0, .int .u8 0, .int .u8 0, .int .u8 0, .int .u8 0, .int .u8 0, .int .u8 0, .int .u8 0, .int .u8 0, .int .u8 0, .int .u8 0, .int .u8 0, .int .u8 0, .int .u8 0] 44)
            have hw11 := hHeld.size
            have hr8 := old_alloc hr8 (.cells #[.int .i64 0, .int .u8 0, .int .u8 0, .int .u8 0, .int .u8 0, .int .u8 0, .int .u8 0, .int .u8 0, .int .u8 0, .int .u8 0, .int .u8 0, .int .u8 0, .int .u8 0, .int .u8 0, .int .u8 0, .int .u8 0, .int .u8 0, .int .u8 0, .int .u8 0, .int .u8 0, .int .u8 0] 44)
            have hr9 := old_alloc hr9 (.cells #[.int .i64 0, .int .u8 0, .int .u8 0, .int .u8 0, .int .u8 0, .int .u8 0, .int .u8 0, .int .u8 0, .int .u8 0, .int .u8 0, .int .u8 0, .int .u8 0, .int .u8 0, .int .u8 0, .int .u8 0, .int .u8 0, .int .u8 0, .int .u8 0, .int .u8 0, .int .u8 0, .int .u8 0] 44)
            have hr10 := old_alloc hr10 (.cells #[.int .i64 0, .int .u8 0, .int .u8 0, .int .u8 0, .int .u8 0, .int .u8 0, .int .u8 0, .int .u8 0, .int .u8 0, .int .u8 0, .int .u8 0, .int .u8 0, .int .u8 0, .int .u8 0, .int .u8 0, .int .u8 0, .int .u8 0, .int .u8 0, .int .u8 0, .int .u8 0, .int .u8 0] 44)
            refine hK.out _ _ (hHeld.alloc hHeld.size _) (fun hNew => ?_)
            clear hK K hHeld
            have hHeld := hNew
            clear hNew
            (try simp only [Act.put, List.setIfInBounds_toArray, List.set_cons_zero, List.set_cons_succ])
            generalize hgg : ww3.heap.size = g11 at hr11 hw11 hl811 hl911 hl1011 ⊢
            generalize hvv : ww3.alloc (.cells #[.int .i64 0, .int .u8 0, .int .u8 0, .int .u8 0, .int .u8 0, .int .u8 0, .int .u8 0, .int .u8 0, .int .u8 0, .int .u8 0, .int .u8 0, .int .u8 0, .int .u8 0, .int .u8 0, .int .u8 0, .int .u8 0, .int .u8 0, .int .u8 0, .int .u8 0, .int .u8 0, .int .u8 0] 44) = ww4 at hr8 hr9 hr10 hr11 hHeld ⊢
            clear hgg hvv
            refine wpAnyH_ready (rs := [12]) (by decide +kernel) (by simp) ?_
            refine AllReadyH.cons (o := ?_) (by simp only [List.getElem?_toArray, List.getElem?_cons_zero, List.getElem?_cons_succ]; rfl) (fun K hK => ?_) AllReadyH.nil
            rw [if_pos (by rfl)]
            refine wp_store_row _ _ _ rfl g8 F1.toArray rfl rfl _ _ hr8 Hf1.out.1 Hf1.out.2.1 Hf1.out.2.2 ?_
            have hr9 := (setRow_other ww4 g8 g9 F1.toArray (Nat.ne_of_gt hl89)).trans hr9
            have hr10 := (setRow_other ww4 g8 g10 F1.toArray (Nat.ne_of_gt hl810)).trans hr10
            have hr11 := (setRow_other ww4 g8 g11 F1.toArray (Nat.ne_of_gt hl811)).trans hr11
            have hr8 := setRow_heap ww4 g8 _ F1.toArray _ _ hr8
            refine hK.out _ _ (below_setRow hHeld hw8 _) (fun hNew => ?_)
            clear hK K hHeld
            have hHeld := hNew
            clear hNew
            (try simp only [Act.put])
            generalize hvv : ww4.setRow g8 F1.toArray = xx1 at hr8 hr9 hr10 hr11 hHeld ⊢
            clear hvv
            refine wpAnyH_ready (rs := [13]) (by decide +kernel) (by simp) ?_
            refine AllReadyH.cons (o := ?_) (by simp only [List.getElem?_toArray, List.getElem?_cons_zero, List.getElem?_cons_succ]; rfl) (fun K hK => ?_) AllReadyH.nil
            rw [if_pos (by rfl)]
            refine wp_store_row _ _ _ rfl g9 F2.toArray rfl rfl _ _ hr9 Hf2.out.1 Hf2.out.2.1 Hf2.out.2.2 ?_
            have hr8 := (setRow_other xx1 g9 g8 F2.toArray (Nat.ne_of_lt hl89)).trans hr8
            have hr10 := (setRow_other xx1 g9 g10 F2.toArray (Nat.ne_of_gt hl910)).trans hr10
            have hr11 := (setRow_other xx1 g9 g11 F2.toArray (Nat.ne_of_gt hl911)).trans hr11
            have hr9 := setRow_heap xx1 g9 _ F2.toArray _ _ hr9
            refine hK.out _ _ (below_setRow hHeld hw9 _) (fun hNew => ?_)
            clear hK K hHeld
            have hHeld := hNew
            clear hNew
            (try simp only [Act.put])
            generalize hvv : xx1.setRow g9 F2.toArray = xx2 at hr8 hr9 hr10 hr11 hHeld ⊢
            clear hvv
            refine wpAnyH_ready (rs := [14]) (by decide +kernel) (by simp) ?_
            refine AllReadyH.cons (o := ?_) (by simp only [List.getElem?_toArray, List.getElem?_cons_zero, List.getElem?_cons_succ]; rfl) (fun K hK => ?_) AllReadyH.nil
            rw [if_pos (by rfl)]
            refine wp_store_row _ _ _ rfl g10 R1.toArray rfl rfl _ _ hr10 Hr1.out.1 Hr1.out.2.1 Hr1.out.2.2 ?_
            have hr8 := (setRow_other xx2 g10 g8 R1.toArray (Nat.ne_of_lt hl810)).trans hr8
            have hr9 := (setRow_other xx2 g10 g9 R1.toArray (Nat.ne_of_lt hl910)).trans hr9
            have hr11 := (setRow_other xx2 g10 g11 R1.toArray (Nat.ne_of_gt hl1011)).trans hr11
            have hr10 := setRow_heap xx2 g10 _ R1.toArray _ _ hr10
            refine hK.out _ _ (below_setRow hHeld hw10 _) (fun hNew => ?_)
            clear hK K hHeld
            have hHeld := hNew
            clear hNew
            (try simp only [Act.put])
            generalize hvv : xx2.setRow g10 R1.toArray = xx3 at hr8 hr9 hr10 hr11 hHeld ⊢
            clear hvv
            refine wpAnyH_ready (rs := [15]) (by decide +kernel) (by simp) ?_
            refine AllReadyH.cons (o := ?_) (by simp only [List.getElem?_toArray, List.getElem?_cons_zero, List.getElem?_cons_succ]; rfl) (fun K hK => ?_) AllReadyH.nil
            rw [if_pos (by rfl)]
            refine wp_store_row _ _ _ rfl g11 R2.toArray rfl rfl _ _ hr11 Hr2.out.1 Hr2.out.2.1 Hr2.out.2.2 ?_
            have hr8 := (setRow_other xx3 g11 g8 R2.toArray (Nat.ne_of_lt hl811)).trans hr8
            have hr9 := (setRow_other xx3 g11 g9 R2.toArray (Nat.ne_of_lt hl911)).trans hr9
            have hr10 := (setRow_other xx3 g11 g10 R2.toArray (Nat.ne_of_lt hl1011)).trans hr10
            have hr11 := setRow_heap xx3 g11 _ R2.toArray _ _ hr11
            refine hK.out _ _ (below_setRow hHeld hw11 _) (fun hNew => ?_)
            clear hK K hHeld
            have hHeld := hNew
            clear hNew
            (try simp only [Act.put])
            generalize hvv : xx3.setRow g11 R2.toArray = xx4 at hr8 hr9 hr10 hr11 hHeld ⊢
            clear hvv
            refine wpAnyH_done (by decide +kernel) ?_ _
            have HE : Hid (Cut1 F1 F2 R1 R2 w (.pointer (some ⟨g8, 0, none⟩)) (.pointer (some ⟨g9, 0, none⟩)) (.pointer (some ⟨g10, 0, none⟩)) (.pointer (some ⟨g11, 0, none⟩)) xx4) := ⟨g8, g9, g10, g11, rfl, rfl, rfl, rfl, hr8, hr9, hr10, hr11, HB2.out.trans (hHeld.mono HB2.out.size)⟩
            clear hr8 hr9 hr10 hr11 hHeld
            go_wp2_with fail
            go_meet
            exact HE
          exact AllReadyH.nil
        refine AllReadyH.cons (o := ?_) (by simp only [List.getElem?_toArray, List.getElem?_cons_zero, List.getElem?_cons_succ]; rfl) (fun K hK => ?_) ?_
        · go_simp
          have hl811 := row_lt hr8
          have hl911 := row_lt hr9
          have hr11 := heap_alloc_new ww2 (.cells #[.int .i64 0, .int .u8 0, .int .u8 0, .int .u8 0, .int .u8 0, .int .u8 0, .int .u8 0, .int .u8 0, .int .u8 0, .int .u8 0, .int .u8 0, .int .u8 0, .int .u8 0, .int .u8 0, .int .u8 0, .int .u8 0, .int .u8 0, .int .u8 0, .int .u8 0, .int .u8 0, .int .u8 0] 44)
          have hw11 := hHeld.size
          have hr8 := old_alloc hr8 (.cells #[.int .i64 0, .int .u8 0, .int .u8 0, .int .u8 0, .int .u8 0, .int .u8 0, .int .u8 0, .int .u8 0, .int .u8 0, .int .u8 0, .int .u8 0, .int .u8 0, .int .u8 0, .int .u8 0, .int .u8 0, .int .u8 0, .int .u8 0, .int .u8 0, .int .u8 0, .int .u8 0, .int .u8 0] 44)
          have hr9 := old_alloc hr9 (.cells #[.int .i64 0, .int .u8 0, .int .u8 0, .int .u8 0, .int .u8 0, .int .u8 0, .int .u8 0, .int .u8 0, .int .u8 0, .int .u8 0, .int .u8 0, .int .u8 0, .int .u8 0, .int .u8 0, .int .u8 0, .int .u8 0, .int .u8 0, .int .u8 0, .int .u8 0, .int .u8 0, .int .u8 0] 44)
          refine hK.out _ _ (hHeld.alloc hHeld.size _) (fun hNew => ?_)
          clear hK K hHeld
          have hHeld := hNew
          clear hNew
          (try simp only [Act.put, List.setIfInBounds_toArray, List.set_cons_zero, List.set_cons_succ])
          generalize hgg : ww2.heap.size = g11 at hr11 hw11 hl811 hl911 ⊢
          generalize hvv : ww2.alloc (.cells #[.int .i64 0, .int .u8 0, .int .u8 0, .int .u8 0, .int .u8 0, .int .u8 0, .int .u8 0, .int .u8 0, .int .u8 0, .int .u8 0, .int .u8 0, .int .u8 0, .int .u8 0, .int .u8 0, .int .u8 0, .int .u8 0, .int .u8 0, .int .u8 0, .int .u8 0, .int .u8 0, .int .u8 0] 44) = ww3 at hr8 hr9 hr11 hHeld ⊢
          clear hgg hvv
          refine wpAnyH_ready (rs := [10]) (by decide +kernel) (by simp) ?_
          refine AllReadyH.cons (o := ?_) (by simp only [List.getElem?_toArray, List.getElem?_cons_zero, List.getElem?_cons_succ]; rfl) (fun K hK => ?_) ?_
          · go_simp
            have hl810 := row_lt hr8
            have hl910 := row_lt hr9
            have hl1110 := row_lt hr11
            have hr10 := heap_alloc_new ww3 (.cells #[.int .i64 0, .int .u8 0, .int .u8 0, .int .u8 0, .int .u8 0, .int .u8 0, .int .u8 0, .int .u8 0, .int .u8 0, .int .u8 0, .int .u8 0, .int .u8 0, .int .u8 0, .int .u8 0, .int .u8 0, .int .u8 0, .int .u8 0, .int .u8 0, .int .u8 0, .int .u8 0, .int .u8 0] 44)
            have hw10 := hHeld.size
            have hr8 := old_alloc hr8 (.cells #[.int .i64 0, .int .u8 0, .int .u8 0, .int .u8 0, .int .u8 0, .int .u8 0, .int .u8 0, .int .u8 0, .int .u8 0, .int .u8 0, .int .u8 0, .int .u8 0, .int .u8 0, .int .u8 0, .int .u8 0, .int .u8 0, .int .u8 0, .int .u8 0, .int .u8 0, .int .u8 0, .int .u8 0] 44)
            have hr9 := old_alloc hr9 (.cells #[.int .i64 0, .int .u8 0, .int .u8 0, .int .u8 0, .int .u8 0, .int .u8 0, .int .u8 0, .int .u8 0, .int .u8 0, .int .u8 0, .int .u8 0, .int .u8 0, .int .u8 0, .int .u8 0, .int .u8 0, .int .u8 0, .int .u8 0, .int .u8 0, .int .u8 0, .int .u8 0, .int .u8 0] 44)
            have hr11 := old_alloc hr11 (.cells #[.int .i64 0, .int .u8 0, .int .u8 0, .int .u8 0, .int .u8 0, .int .u8 0, .int .u8 0, .int .u8 0, .int .u8 0, .int .u8 0, .int .u8 0, .int .u8 0, .int .u8 0, .int .u8 0, .int .u8 0, .int .u8 0, .int .u8 0, .int .u8 0, .int .u8 0, .int .u8 0, .int .u8 0] 44)
            refine hK.out _ _ (hHeld.alloc hHeld.size _) (fun hNew => ?_)
            clear hK K hHeld
            have hHeld := hNew
            clear hNew
            (try simp only [Act.put, List.setIfInBounds_toArray, List.set_cons_zero, List.set_cons_succ])
            generalize hgg : ww3.heap.size = g10 at hr10 hw10 hl810 hl910 hl1110 ⊢
            generalize hvv : ww3.alloc (.cells #[.int .i64 0, .int .u8 0, .int .u8 0, .int .u8 0, .int .u8 0, .int .u8 0, .int .u8 0, .int .u8 0, .int .u8 0, .int .u8 0, .int .u8 0, .int .u8 0, .int .u8 0, .int .u8 0, .int .u8 0, .int .u8 0, .int .u8 0, .int .u8 0, .int .u8 0, .int .u8 0, .int .u8 0] 44) = ww4 at hr8 hr9 hr11 hr10 hHeld ⊢
            clear hgg hvv
            refine wpAnyH_ready (rs := [12]) (by decide +kernel) (by simp) ?_
            refine AllReadyH.cons (o := ?_) (by simp only [List.getElem?_toArray, List.getElem?_cons_zero, List.getElem?_cons_succ]; rfl) (fun K hK => ?_) AllReadyH.nil
            rw [if_pos (by rfl)]
            refine wp_store_row _ _ _ rfl g8 F1.toArray rfl rfl _ _ hr8 Hf1.out.1 Hf1.out.2.1 Hf1.out.2.2 ?_
            have hr9 := (setRow_other ww4 g8 g9 F1.toArray (Nat.ne_of_gt hl89)).trans hr9
            have hr10 := (setRow_other ww4 g8 g10 F1.toArray (Nat.ne_of_gt hl810)).trans hr10
            have hr11 := (setRow_other ww4 g8 g11 F1.toArray (Nat.ne_of_gt hl811)).trans hr11
            have hr8 := setRow_heap ww4 g8 _ F1.toArray _ _ hr8
            refine hK.out _ _ (below_setRow hHeld hw8 _) (fun hNew => ?_)
            clear hK K hHeld
            have hHeld := hNew
            clear hNew
            (try simp only [Act.put])
            generalize hvv : ww4.setRow g8 F1.toArray = xx1 at hr8 hr9 hr10 hr11 hHeld ⊢
            clear hvv
            refine wpAnyH_ready (rs := [13]) (by decide +kernel) (by simp) ?_
            refine AllReadyH.cons (o := ?_) (by simp only [List.getElem?_toArray, List.getElem?_cons_zero, List.getElem?_cons_succ]; rfl) (fun K hK => ?_) AllReadyH.nil
            rw [if_pos (by rfl)]
            refine wp_store_row _ _ _ rfl g9 F2.toArray rfl rfl _ _ hr9 Hf2.out.1 Hf2.out.2.1 Hf2.out.2.2 ?_
            have hr8 := (setRow_other xx1 g9 g8 F2.toArray (Nat.ne_of_lt hl89)).trans hr8
            have hr10 := (setRow_other xx1 g9 g10 F2.toArray (Nat.ne_of_gt hl910)).trans hr10
            have hr11 := (setRow_other xx1 g9 g11 F2.toArray (Nat.ne_of_gt hl911)).trans hr11
            have hr9 := setRow_heap xx1 g9 _ F2.toArray _ _ hr9
            refine hK.out _ _ (below_setRow hHeld hw9 _) (fun hNew => ?_)
            clear hK K hHeld
            have hHeld := hNew
            clear hNew
            (try simp only [Act.put])
            generalize hvv : xx1.setRow g9 F2.toArray = xx2 at hr8 hr9 hr10 hr11 hHeld ⊢
            clear hvv
            refine wpAnyH_ready (rs := [14]) (by decide +kernel) (by simp) ?_
            refine AllReadyH.cons (o := ?_) (by simp only [List.getElem?_toArray, List.getElem?_cons_zero, List.getElem?_cons_succ]; rfl) (fun K hK => ?_) AllReadyH.nil
            rw [if_pos (by rfl)]
            refine wp_store_row _ _ _ rfl g10 R1.toArray rfl rfl _ _ hr10 Hr1.out.1 Hr1.out.2.1 Hr1.out.2.2 ?_
            have hr8 := (setRow_other xx2 g10 g8 R1.toArray (Nat.ne_of_lt hl810)).trans hr8
            have hr9 := (setRow_other xx2 g10 g9 R1.toArray (Nat.ne_of_lt hl910)).trans hr9
            have hr11 := (setRow_other xx2 g10 g11 R1.toArray (Nat.ne_of_lt hl1110)).trans hr11
            have hr10 := setRow_heap xx2 g10 _ R1.toArray _ _ hr10
            refine hK.out _ _ (below_setRow hHeld hw10 _) (fun hNew => ?_)
            clear hK K hHeld
            have hHeld := hNew
            clear hNew
            (try simp only [Act.put])
            generalize hvv : xx2.setRow g10 R1.toArray = xx3 at hr8 hr9 hr10 hr11 hHeld ⊢
            clear hvv
            refine wpAnyH_ready (rs := [15]) (by decide +kernel) (by simp) ?_
            refine AllReadyH.cons (o := ?_) (by simp only [List.getElem?_toArray, List.getElem?_cons_zero, List.getElem?_cons_succ]; rfl) (fun K hK => ?_) AllReadyH.nil
            rw [if_pos (by rfl)]
            refine wp_store_row _ _ _ rfl g11 R2.toArray rfl rfl _ _ hr11 Hr2.out.1 Hr2.out.2.1 Hr2.out.2.2 ?_
            have hr8 := (setRow_other xx3 g11 g8 R2.toArray (Nat.ne_of_lt hl811)).trans hr8
            have hr9 := (setRow_other xx3 g11 g9 R2.toArray (Nat.ne_of_lt hl911)).trans hr9
            have hr10 := (setRow_other xx3 g11 g10 R2.toArray (Nat.ne_of_gt hl1110)).trans hr10
            have hr11 := setRow_heap xx3 g11 _ R2.toArray _ _ hr11
            refine hK.out _ _ (below_setRow hHeld hw11 _) (fun hNew => ?_)
            clear hK K hHeld
            have hHeld := hNew
            clear hNew
            (try simp only [Act.put])
            generalize hvv : xx3.setRow g11 R2.toArray = xx4 at hr8 hr9 hr10 hr11 hHeld ⊢
            clear hvv
            refine wpAnyH_done (by decide +kernel) ?_ _
            have HE : Hid (Cut1 F1 F2 R1 R2 w (.pointer (some ⟨g8, 0, none⟩)) (.pointer (some ⟨g9, 0, none⟩)) (.pointer (some ⟨g10, 0, none⟩)) (.pointer (some ⟨g11, 0, none⟩)) xx4) := ⟨g8, g9, g10, g11, rfl, rfl, rfl, rfl, hr8, hr9, hr10, hr11, HB2.out.trans (hHeld.mono HB2.out.size)⟩
            clear hr8 hr9 hr10 hr11 hHeld
            go_wp2_with fail
            go_meet
            exact HE
          exact AllReadyH.nil
        exact AllReadyH.nil
      refine AllReadyH.cons (o := ?_) (by simp only [List.getElem?_toArray, List.getElem?_cons_zero, List.getElem?_cons_succ]; rfl) (fun K hK => ?_) ?_
      · go_simp
        have hl810 := row_lt hr8
        have hr10 := heap_alloc_new ww1 (.cells #[.int .i64 0, .int .u8 0, .int .u8 0, .int .u8 0, .int .u8 0, .int .u8 0, .int .u8 0, .int .u8 0, .int .u8 0, .int .u8 0, .int .u8 0, .int .u8 0, .int .u8 0, .int .u8 0, .int .u8 0, .int .u8 0, .int .u8 0, .int .u8 0, .int .u8 0, .int .u8 0, .int .u8 0] 44)
        have hw10 := hHeld.size
        have hr8 := old_alloc hr8 (.cells #[.int .i64 0, .int .u8 0, .int .u8 0, .int .u8 0, .int .u8 0, .int .u8 0, .int .u8 0, .int .u8 0, .int .u8 0, .int .u8 0, .int .u8 0, .int .u8 0, .int .u8 0, .int .u8 0, .int .u8 0, .int .u8 0, .int .u8 0, .int .u8 0, .int .u8 0, .int .u8 0, .int .u8 0] 44)
        refine hK.out _ _ (hHeld.alloc hHeld.size _) (fun hNew => ?_)
        clear hK K hHeld
        have hHeld := hNew
        clear hNew
        (try simp only [Act.put, List.setIfInBounds_toArray, List.set_cons_zero, List.set_cons_succ])
        generalize hgg : ww1.heap.size = g10 at hr10 hw10 hl810 ⊢
        generalize hvv : ww1.alloc (.cells #[.int .i64 0, .int .u8 0, .int .u8 0, .int .u8 0, .int .u8 0, .int .u8 0, .int .u8 0, .int .u8 0, .int .u8 0, .int .u8 0, .int .u8 0, .int .u8 0, .int .u8 0, .int .u8 0, .int .u8 0, .int .u8 0, .int .u8 0, .int .u8 0, .int .u8 0, .int .u8 0, .int .u8 0] 44) = ww2 at hr8 hr10 hHeld ⊢
        clear hgg hvv
        refine wpAnyH_ready (rs := [9, 11]) (by decide +kernel) (by simp) ?_
        refine AllReadyH.cons (o := ?_) (by simp only [List.getElem?_toArray, List.getElem?_cons_zero, List.getElem?_cons_succ]; rfl) (fun K hK => ?_) ?_
        · go_simp
          have hl89 := row_lt hr8
          have hl109 := row_lt hr10
          have hr9 := heap_alloc_new ww2 (.cells #[.int .u8 0, .int .u8 0, .int .u8 0, .int .u8 0, .int .u8 0, .int .u8 0, .int .u8 0, .int .u8 0, .int .u8 0, .int .u8 0, .int .u8 0, .int .u8 0, .int .u16 0, .slice none 0 0] 27)
          have hw9 := hHeld.size
          have hr8 := old_alloc hr8 (.cells #[.int .u8 0, .int .u8 0, .int .u8 0, .int .u8 0, .int .u8 0, .int .u8 0, .int .u8 0, .int .u8 0, .int .u8 0, .int .u8 0, .int .u8 0, .int .u8 0, .int .u16 0, .slice none 0 0] 27)
          have hr10 := old_alloc hr10 (.cells #[.int .u8 0, .int .u8 0, .int .u8 0, .int .u8 0, .int .u8 0, .int .u8 0, .int .u8 0, .int .u8 0, .int .u8 0, .int .u8 0, .int .u8 0, .int .u8 0, .int .u16 0, .slice none 0 0] 27)
          refine hK.out _ _ (hHeld.alloc hHeld.size _) (fun hNew => ?_)
          clear hK K hHeld
          have hHeld := hNew
          clear hNew
          (try simp only [Act.put, List.setIfInBounds_toArray, List.set_cons_zero, List.set_cons_succ])
          generalize hgg : ww2.heap.size = g9 at hr9 hw9 hl89 hl109 ⊢
          generalize hvv : ww2.alloc (.cells #[.int .u8 0, .int .u8 0, .int .u8 0, .int .u8 0, .int .u8 0, .int .u8 0, .int .u8 0, .int .u8 0, .int .u8 0, .int .u8 0, .int .u8 0, .int .u8 0, .int .u16 0, .slice none 0 0] 27) = ww3 at hr8 hr10 hr9 hHeld ⊢
          clear hgg hvv
          refine wpAnyH_ready (rs := [11]) (by decide +kernel) (by simp) ?_
          refine AllReadyH.cons (o := ?_) (by simp only [List.getElem?_toArray, List.getElem?_cons_zero, List.getElem?_cons_succ]; rfl) (fun K hK => ?_) ?_
          · go_simp
            have hl811 := row_lt hr8
            have hl1011 := row_lt hr10
            have hl911 := row_lt hr9
            have hr11 := heap_alloc_new ww3 (.cells #[.int .i64 0, .int .u8 0, .int .u8 0, .int .u8 0, .int .u8 0, .int .u8 0, .int .u8 0, .int .u8 0, .int .u8 0, .int .u8 0, .int .u8 0, .int .u8 0, .int .u8 0, .int .u8 0, .int .u8 0, .int .u8 0, .int .u8 0, .int .u8 0, .int .u8 0, .int .u8 0, .int .u8 0] 44)
            have hw11 := hHeld.size
            have hr8 := old_alloc hr8 (.cells #[.int .i64 0, .int .u8 0, .int .u8 0, .int .u8 0, .int .u8 0, .int .u8 0, .int .u8 0, .int .u8 0, .int .u8 0, .int .u8 0, .int .u8 0, .int .u8 0, .int .u8 0, .int .u8 0, .int .u8 0, .int .u8 0, .int .u8 0, .int .u8 0, .int .u8 0, .int .u8 0, .int .u8 0] 44)
            have hr10 := old_alloc hr10 (.cells #[.int .i64 0, .int .u8 0, .int .u8 0, .int .u8 0, .int .u8 0, .int .u8 0, .int .u8 0, .int .u8 0, .int .u8 0, .int .u8 0, .int .u8 0, .int .u8 0, .int .u8 0, .int .u8 0, .int .u8 0, .int .u8 0, .int .u8 0, .int .u8 0, .int .u8 0, .int .u8 0, .int .u8 0] 44)
            have hr9 := old_alloc hr9 (.cells #[.int .i64 0, .int .u8 0, .int .u8 0, .int .u8 0, .int .u8 0, .int .u8 0, .int .u8 0, .int .u8 0, .int .u8 0, .int .u8 0, .int .u8 0, .int .u8 0, .int .u8 0, .int .u8 0, .int .u8 0, .int .u8 0, .int .u8 0, .int .u8 0, .int .u8 0, .int .u8 0, .int .u8 0] 44)
            refine hK.out _ _ (hHeld.alloc hHeld.size _) (fun hNew => ?_)
            clear hK K hHeld
            have hHeld := hNew
            clear hNew
            (try simp only [Act.put, List.setIfInBounds_toArray, List.set_cons_zero, List.set_cons_succ])
            generalize hgg : ww3.heap.size = g11 at hr11 hw11 hl811 hl1011 hl911 ⊢
            generalize hvv : ww3.alloc (.cells #[.int .i64 0, .int .u8 0, .int .u8 0, .int .u8 0, .int .u8 0, .int .u8 0, .int .u8 0, .int .u8 0, .int .u8 0, .int .u8 0, .int .u8 0, .int .u8 0, .int .u8 0, .int .u8 0, .int .u8 0, .int .u8 0, .int .u8 0, .int .u8 0, .int .u8 0, .int .u8 0, .int .u8 0] 44) = ww4 at hr8 hr10 hr9 hr11 hHeld ⊢
            clear hgg hvv
            refine wpAnyH_ready (rs := [12]) (by decide +kernel) (by simp) ?_
            refine AllReadyH.cons (o := ?_) (by simp only [List.getElem?_toArray, List.getElem?_cons_zero, List.getElem?_cons_succ]; rfl) (fun K hK => ?_) AllReadyH.nil
            rw [if_pos (by rfl)]
            refine wp_store_row _ _ _ rfl g8 F1.toArray rfl rfl _ _ hr8 Hf1.out.1 Hf1.out.2.1 Hf1.out.2.2 ?_
            have hr9 := (setRow_other ww4 g8 g9 F1.toArray (Nat.ne_of_gt hl89)).trans hr9
            have hr10 := (setRow_other ww4 g8 g10 F1.toArray (Nat.ne_of_gt hl810)).trans hr10
            have hr11 := (setRow_other ww4 g8 g11 F1.toArray (Nat.ne_of_gt hl811)).trans hr11
            have hr8 := setRow_heap ww4 g8 _ F1.toArray _ _ hr8
            refine hK.out _ _ (below_setRow hHeld hw8 _) (fun hNew => ?_)
            clear hK K hHeld
            have hHeld := hNew
            clear hNew
            (try simp only [Act.put])
            generalize hvv : ww4.setRow g8 F1.toArray = xx1 at hr8 hr9 hr10 hr11 hHeld ⊢
            clear hvv
            refine wpAnyH_ready (rs := [13]) (by decide +kernel) (by simp) ?_
            refine AllReadyH.cons (o := ?_) (by simp only [List.getElem?_toArray, List.getElem?_cons_zero, List.getElem?_cons_succ]; rfl) (fun K hK => ?_) AllReadyH.nil
            rw [if_pos (by rfl)]
            refine wp_store_row _ _ _ rfl g9 F2.toArray rfl rfl _ _ hr9 Hf2.out.1 Hf2.out.2.1 Hf2.out.2.2 ?_
            have hr8 := (setRow_other xx1 g9 g8 F2.toArray (Nat.ne_of_lt hl89)).trans hr8
            have hr10 := (setRow_other xx1 g9 g10 F2.toArray (Nat.ne_of_lt hl109)).trans hr10
            have hr11 := (setRow_other xx1 g9 g11 F2.toArray (Nat.ne_of_gt hl911)).trans hr11
            have hr9 := setRow_heap xx1 g9 _ F2.toArray _ _ hr9
            refine hK.out _ _ (below_setRow hHeld hw9 _) (fun hNew => ?_)
            clear hK K hHeld
            have hHeld := hNew
            clear hNew
            (try simp only [Act.put])
            generalize hvv : xx1.setRow g9 F2.toArray = xx2 at hr8 hr9 hr10 hr11 hHeld ⊢
            clear hvv
            refine wpAnyH_ready (rs := [14]) (by decide +kernel) (by simp) ?_
            refine AllReadyH.cons (o := ?_) (by simp only [List.getElem?_toArray, List.getElem?_cons_zero, List.getElem?_cons_succ]; rfl) (fun K hK => ?_) AllReadyH.nil
            rw [if_pos (by rfl)]
            refine wp_store_row _ _ _ rfl g10 R1.toArray rfl rfl _ _ hr10 Hr1.out.1 Hr1.out.2.1 Hr1.out.2.2 ?_
            have hr8 := (setRow_other xx2 g10 g8 R1.toArray (Nat.ne_of_lt hl810)).trans hr8
            have hr9 := (setRow_other xx2 g10 g9 R1.toArray (Nat.ne_of_gt hl109)).trans hr9
            have hr11 := (setRow_other xx2 g10 g11 R1.toArray (Nat.ne_of_gt hl1011)).trans hr11
            have hr10 := setRow_heap xx2 g10 _ R1.toArray _ _ hr10
            refine hK.out _ _ (below_setRow hHeld hw10 _) (fun hNew => ?_)
            clear hK K hHeld
            have hHeld := hNew
            clear hNew
            (try simp only [Act.put])
            generalize hvv : xx2.setRow g10 R1.toArray = xx3 at hr8 hr9 hr10 hr11 hHeld ⊢
            clear hvv
            refine wpAnyH_ready (rs := [15]) (by decide +kernel) (by simp) ?_
            refine AllReadyH.cons (o := ?_) (by simp only [List.getElem?_toArray, List.getElem?_cons_zero, List.getElem?_cons_succ]; rfl) (fun K hK => ?_) AllReadyH.nil
            rw [if_pos (by rfl)]
            refine wp_store_row _ _ _ rfl g11 R2.toArray rfl rfl _ _ hr11 Hr2.out.1 Hr2.out.2.1 Hr2.out.2.2 ?_
            have hr8 := (setRow_other xx3 g11 g8 R2.toArray (Nat.ne_of_lt hl811)).trans hr8
            have hr9 := (setRow_other xx3 g11 g9 R2.toArray (Nat.ne_of_lt hl911)).trans hr9
            have hr10 := (setRow_other xx3 g11 g10 R2.toArray (Nat.ne_of_lt hl1011)).trans hr10
            have hr11 := setRow_heap xx3 g11 _ R2.toArray _ _ hr11
            refine hK.out _ _ (below_setRow hHeld hw11 _) (fun hNew => ?_)
            clear hK K hHeld
            have hHeld := hNew
            clear hNew
            (try simp only [Act.put])
            generalize hvv : xx3.setRow g11 R2.toArray = xx4 at hr8 hr9 hr10 hr11 hHeld ⊢
            clear hvv
            refine wpAnyH_done (by decide +kernel) ?_ _
            have HE : Hid (Cut1 F1 F2 R1 R2 w (.pointer (some ⟨g8, 0, none⟩)) (.pointer (some ⟨g9, 0, none⟩)) (.pointer (some ⟨g10, 0, none⟩)) (.pointer (some ⟨g11, 0, none⟩)) xx4) := ⟨g8, g9, g10, g11, rfl, rfl, rfl, rfl, hr8, hr9, hr10, hr11, HB2.out.trans (hHeld.mono HB2.out.size)⟩
            clear hr8 hr9 hr10 hr11 hHeld
            go_wp2_with fail
            go_meet
            exact HE
          exact AllReadyH.nil
        refine AllReadyH.cons (o := ?_) (by simp only [List.getElem?_toArray, List.getElem?_cons_zero, List.getElem?_cons_succ]; rfl) (fun K hK => ?_) ?_
        · go_simp
          have hl811 := row_lt hr8
          have hl1011 := row_lt hr10
          have hr11 := heap_alloc_new ww2 (.cells #[.int .i64 0, .int .u8 0, .int .u8 0, .int .u8 0, .int .u8 0, .int .u8 0, .int .u8 0, .int .u8 0, .int .u8 0, .int .u8 0, .int .u8 0, .int .u8 0, .int .u8 0, .int .u8 0, .int .u8 0, .int .u8 0, .int .u8 0, .int .u8 0, .int .u8 0, .int .u8 0, .int .u8 0] 44)
          have hw11 := hHeld.size
          have hr8 := old_alloc hr8 (.cells #[.int .i64 0, .int .u8 0, .int .u8 0, .int .u8 0, .int .u8 0, .int .u8 0, .int .u8 0, .int .u8 0, .int .u8 0, .int .u8 0, .int .u8 0, .int .u8 0, .int .u8 0, .int .u8 0, .int .u8 0, .int .u8 0, .int .u8 0, .int .u8 0, .int .u8 0, .int .u8 0, .int .u8 0] 44)
          have hr10 := old_alloc hr10 (.cells #[.int .i64 0, .int .u8 0, .int .u8 0, .int .u8 0, .int .u8 0, .int .u8 0, .int .u8 0, .int .u8 0, .int .u8 0, .int .u8 0, .int .u8 0, .int .u8 0, .int .u8 0, .int .u8 0, .int .u8 0, .int .u8 0, .int .u8 0, .int .u8 0, .int .u8 0, .int .u8 0, .int .u8 0] 44)
          refine hK.out _ _ (hHeld.alloc hHeld.size _) (fun hNew => ?_)
          clear hK K hHeld
          have hHeld := hNew
          clear hNew
          (try simp only [Act.put, List.setIfInBounds_toArray, List.set_cons_zero, List.set_cons_succ])
          generalize hgg : ww2.heap.size = g11 at hr11 hw11 hl811 hl1011 ⊢
          generalize hvv : ww2.alloc (.cells #[.int .i64 0, .int .u8 0, .int .u8 0, .int .u8 0, .int .u8 0, .int .u8 0, .int .u8 0, .int .u8 0, .int .u8 0, .int .u8 0, .int .u8 0, .int .u8 0, .int .u8 0, .int .u8 0, .int .u8 0, .int .u8 0, .int .u8 0, .int .u8 0, .int .u8 0, .int .u8 0, .int .u8 0] 44) = ww3 at hr8 hr10 hr11 hHeld ⊢
          clear hgg hvv
          refine wpAnyH_ready (rs := [9]) (by decide +kernel) (by simp) ?_
          refine AllReadyH.cons (o := ?_) (by simp only [List.getElem?_toArray, List.getElem?_cons_zero, List.getElem?_cons_succ]; rfl) (fun K hK => ?_) ?_
          · go_simp
            have hl89 := row_lt hr8
            have hl109 := row_lt hr10
            have hl119 := row_lt hr11
            have hr9 := heap_alloc_new ww3 (.cells #[.int .u8 0, .int .u8 0, .int .u8 0, .int .u8 0, .int .u8 0, .int .u8 0, .int .u8 0, .int .u8 0, .int .u8 0, .int .u8 0, .int .u8 0, .int .u8 0, .int .u16 0, .slice none 0 0] 27)
            have hw9 := hHeld.size
            have hr8 := old_alloc hr8 (.cells #[.int .u8 0, .int .u8 0, .int .u8 0, .int .u8 0, .int .u8 0, .int .u8 0, .int .u8 0, .int .u8 0, .int .u8 0, .int .u8 0, .int .u8 0, .int .u8 0, .int .u16 0, .slice none 0 0] 27)
            have hr10 := old_alloc hr10 (.cells #[.int .u8 0, .int .u8 0, .int .u8 0, .int .u8 0, .int .u8 0, .int .u8 0, .int .u8 0, .int .u8 0, .int .u8 0, .int .u8 0, .int .u8 0, .int .u8 0, .int .u16 0, .slice none 0 0] 27)
            have hr11 := old_alloc hr11 (.cells #[.int .u8 0, .int .u8 0, .int .u8 0, .int .u8 0, .int .u8 0, .int .u8 0, .int .u8 0, .int .u8 0, .int .u8 0, .int .u8 0, .int .u8 0, .int .u8 0, .int .u16 0, .slice none 0 0] 27)
            refine hK.out _ _ (hHeld.alloc hHeld.size _) (fun hNew => ?_)
            clear hK K hHeld
            have hHeld := hNew
            clear hNew
            (try simp only [Act.put, List.setIfInBounds_toArray, List.set_cons_zero, List.set_cons_succ])
            generalize hgg : ww3.heap.size = g9 at hr9 hw9 hl89 hl109 hl119 ⊢
            generalize hvv : ww3.alloc (.cells #[.int .u8 0, .int .u8 0, .int .u8 0, .int .u8 0, .int .u8 0, .int .u8 0, .int .u8 0, .int .u8 0, .int .u8 0, .int .u8 0, .int .u8 0, .int .u8 0, .int .u16 0, .slice none 0 0] 27) = ww4 at hr8 hr10 hr11 hr9 hHeld ⊢
            clear hgg hvv
            refine wpAnyH_ready (rs := [12]) (by decide +kernel) (by simp) ?_
            refine AllReadyH.cons (o := ?_) (by simp only [List.getElem?_toArray, List.getElem?_cons_zero, List.getElem?_cons_succ]; rfl) (fun K hK => ?_) AllReadyH.nil
            rw [if_pos (by rfl)]
            refine wp_store_row _ _ _ rfl g8 F1.toArray rfl rfl _ _ hr8 Hf1.out.1 Hf1.out.2.1 Hf1.out.2.2 ?_
            have hr9 := (setRow_other ww4 g8 g9 F1.toArray (Nat.ne_of_gt hl89)).trans hr9
            have hr10 := (setRow_other ww4 g8 g10 F1.toArray (Nat.ne_of_gt hl810)).trans hr10
            have hr11 := (setRow_other ww4 g8 g11 F1.toArray (Nat.ne_of_gt hl811)).trans hr11
            have hr8 := setRow_heap ww4 g8 _ F1.toArray _ _ hr8
            refine hK.out _ _ (below_setRow hHeld hw8 _) (fun hNew => ?_)
            clear hK K hHeld
            have hHeld := hNew
            clear hNew
            (try simp only [Act.put])
            generalize hvv : ww4.setRow g8 F1.toArray = xx1 at hr8 hr9 hr10 hr11 hHeld ⊢
            clear hvv
            refine wpAnyH_ready (rs := [13]) (by decide +kernel) (by simp) ?_
            refine AllReadyH.cons (o := ?_) (by simp only [List.getElem?_toArray, List.getElem?_cons_zero, List.getElem?_cons_succ]; rfl) (fun K hK => ?_) AllReadyH.nil
            rw [if_pos (by rfl)]
            refine wp_store_row _ _ _ rfl g9 F2.toArray rfl rfl _ _ hr9 Hf2.out.1 Hf2.out.2.1 Hf2.out.2.2 ?_
            have hr8 := (setRow_other xx1 g9 g8 F2.toArray (Nat.ne_of_lt hl89)).trans hr8
            have hr10 := (setRow_other xx1 g9 g10 F2.toArray (Nat.ne_of_lt hl109)).trans hr10
            have hr11 := (setRow_other xx1 g9 g11 F2.toArray (Nat.ne_of_lt hl119)).trans hr11
            have hr9 := setRow_heap xx1 g9 _ F2.toArray _ _ hr9
            refine hK.out _ _ (below_setRow hHeld hw9 _) (fun hNew => ?_)
            clear hK K hHeld
            have hHeld := hNew
            clear hNew
            (try simp only [Act.put])
            generalize hvv : xx1.setRow g9 F2.toArray = xx2 at hr8 hr9 hr10 hr11 hHeld ⊢
            clear hvv
            refine wpAnyH_ready (rs := [14]) (by decide +kernel) (by simp) ?_
            refine AllReadyH.cons (o := ?_) (by simp only [List.getElem?_toArray, List.getElem?_cons_zero, List.getElem?_cons_succ]; rfl) (fun K hK => ?_) AllReadyH.nil
            rw [if_pos (by rfl)]
            refine wp_store_row _ _ _ rfl g10 R1.toArray rfl rfl _ _ hr10 Hr1.out.1 Hr1.out.2.1 Hr1.out.2.2 ?_
            have hr8 := (setRow_other xx2 g10 g8 R1.toArray (Nat.ne_of_lt hl810)).trans hr8
            have hr9 := (setRow_other xx2 g10 g9 R1.toArray (Nat.ne_of_gt hl109)).trans hr9
            have hr11 := (setRow_other xx2 g10 g11 R1.toArray (Nat.ne_of_gt hl1011)).trans hr11
            have hr10 := setRow_heap xx2 g10 _ R1.toArray _ _ hr10
            refine hK.out _ _ (below_setRow hHeld hw10 _) (fun hNew => ?_)
            clear hK K hHeld
            have hHeld := hNew
            clear hNew
            (try simp only [Act.put])
            generalize hvv : xx2.setRow g10 R1.toArray = xx3 at hr8 hr9 hr10 hr11 hHeld ⊢
            clear hvv
            refine wpAnyH_ready (rs := [15]) (by decide +kernel) (by simp) ?_
            refine AllReadyH.cons (o := ?_) (by simp only [List.getElem?_toArray, List.getElem?_cons_zero, List.getElem?_cons_succ]; rfl) (fun K hK => ?_) AllReadyH.nil
            rw [if_pos (by rfl)]
            refine wp_store_row _ _ _ rfl g11 R2.toArray rfl rfl _ _ hr11 Hr2.out.1 Hr2.out.2.1 Hr2.out.2.2 ?_
            have hr8 := (setRow_other xx3 g11 g8 R2.toArray (Nat.ne_of_lt hl811)).trans hr8
            have hr9 := (setRow_other xx3 g11 g9 R2.toArray (Nat.ne_of_gt hl119)).trans hr9
            have hr10 := (setRow_other xx3 g11 g10 R2.toArray (Nat.ne_of_lt hl1011)).trans hr10
            have hr11 := setRow_heap xx3 g11 _ R2.toArray _ _ hr11
            refine hK.out _ _ (below_setRow hHeld hw11 _) (fun hNew => ?_)
            clear hK K hHeld
            have hHeld := hNew
            clear hNew
            (try simp only [Act.put])
            generalize hvv : xx3.setRow g11 R2.toArray = xx4 at hr8 hr9 hr10 hr11 hHeld ⊢
            clear hvv
            refine wpAnyH_done (by decide +kernel) ?_ _
            have HE : Hid (Cut1 F1 F2 R1 R2 w (.pointer (some ⟨g8, 0, none⟩)) (.pointer (some ⟨g9, 0, none⟩)) (.pointer (some ⟨g10, 0, none⟩)) (.pointer (some ⟨g11, 0, none⟩)) xx4) := ⟨g8, g9, g10, g11, rfl, rfl, rfl, rfl, hr8, hr9, hr10, hr11, HB2.out.trans (hHeld.mono HB2.out.size)⟩
            clear hr8 hr9 hr10 hr11 hHeld
            go_wp2_with fail
            go_meet
            exact HE
          exact AllReadyH.nil
        exact AllReadyH.nil
      refine AllReadyH.cons (o := ?_) (by simp only [List.getElem?_toArray, List.getElem?_cons_zero, List.getElem?_cons_succ]; rfl) (fun K hK => ?_) ?_
      · go_simp
        have hl811 := row_lt hr8
        have hr11 := heap_alloc_new ww1 (.cells #[.int .i64 0, .int .u8 0, .int .u8 0, .int .u8 0, .int .u8 0, .int .u8 0, .int .u8 0, .int .u8 0, .int .u8 0, .int .u8 0, .int .u8 0, .int .u8 0, .int .u8 0, .int .u8 0, .int .u8 0, .int .u8 0, .int .u8 0, .int .u8 0, .int .u8 0, .int .u8 0, .int .u8 0] 44)
        have hw11 := hHeld.size
        have hr8 := old_alloc hr8 (.cells #[.int .i64 0, .int .u8 0, .int .u8 0, .int .u8 0, .int .u8 0, .int .u8 0, .int .u8 0, .int .u8 0, .int .u8 0, .int .u8 0, .int .u8 0, .int .u8 0, .int .u8 0, .int .u8 0, .int .u8 0, .int .u8 0, .int .u8 0, .int .u8 0, .int .u8 0, .int .u8 0, .int .u8 0] 44)
        refine hK.out _ _ (hHeld.alloc hHeld.size _) (fun hNew => ?_)
        clear hK K hHeld
        have hHeld := hNew
        clear hNew
        (try simp only [Act.put, List.setIfInBounds_toArray, List.set_cons_zero, List.set_cons_succ])
        generalize hgg : ww1.heap.size = g11 at hr11 hw11 hl811 ⊢
        generalize hvv : ww1.alloc (.cells #[.int .i64 0, .int .u8 0, .int .u8 0, .int .u8 0, .int .u8 0, .int .u8 0, .int .u8 0, .int .u8 0, .int .u8 0, .int .u8 0, .int .u8 0, .int .u8 0, .int .u8 0, .int .u8 0, .int .u8 0, .int .u8 0, .int .u8 0, .int .u8 0, .int .u8 0, .int .u8 0, .int .u8 0] 44) = ww2 at hr8 hr11 hHeld ⊢
        clear hgg hvv
        refine wpAnyH_ready (rs := [9, 10]) (by decide +kernel) (by simp) ?_
        refine AllReadyH.cons (o := ?_) (by simp only [List.getElem?_toArray, List.getElem?_cons_zero, List.getElem?_cons_succ]; rfl) (fun K hK => ?_) ?_
        · go_simp
          have hl89 := row_lt hr8
          have hl119 := row_lt hr11
          have hr9 := heap_alloc_new ww2 (.cells #[.int .u8 0, .int .u8 0, .int .u8 0, .int .u8 0, .int .u8 0, .int .u8 0, .int .u8 0, .int .u8 0, .int .u8 0, .int .u8 0, .int .u8 0, .int .u8 0, .int .u16 0, .slice none 0 0] 27)
          have hw9 := hHeld.size
          have hr8 := old_alloc hr8 (.cells #[.int .u8 0, .int .u8 0, .int .u8 0, .int .u8 0, .int .u8 0, .int .u8 0, .int .u8 0, .int .u8 0, .int .u8 0, .int .u8 0, .int .u8 0, .int .u8 0, .int .u16 0, .slice none 0 0] 27)
          have hr11 := old_alloc hr11 (.cells #[.int .u8 0, .int .u8 0, .int .u8 0, .int .u8 0, .int .u8 0, .int .u8 0, .int .u8 0, .int .u8 0, .int .u8 0, .int .u8 0, .int .u8 0, .int .u8 0, .int .u16 0, .slice none 0 0] 27)
          refine hK.out _ _ (hHeld.alloc hHeld.size _) (fun hNew => ?_)
          clear hK K hHeld
          have hHeld := hNew
          clear hNew
          (try simp only [Act.put, List.setIfInBounds_toArray, List.set_cons_zero, List.set_cons_succ])
          generalize hgg : ww2.heap.size = g9 at hr9 hw9 hl89 hl119 ⊢
          generalize hvv : ww2.alloc (.cells #[.int .u8 0, .int .u8 0, .int .u8 0, .int .u8 0, .int .u8 0, .int .u8 0, .int .u8 0, .int .u8 0, .int .u8 0, .int .u8 0, .int .u8 0, .int .u8 0, .int .u16 0, .slice none 0 0] 27) = ww3 at hr8 hr11 hr9 hHeld ⊢
          clear hgg hvv
          refine wpAnyH_ready (rs := [10]) (by decide +kernel) (by simp) ?_
          refine AllReadyH.cons (o := ?_) (by simp only [List.getElem?_toArray, List.getElem?_cons_zero, List.getElem?_cons_succ]; rfl) (fun K hK => ?_) ?_
          · go_simp
            have hl810 := row_lt hr8
            have hl1110 := row_lt hr11
            have hl910 := row_lt hr9
            have hr10 := heap_alloc_new ww3 (.cells #[.int .i64 0, .int .u8 0, .int .u8 0, .int .u8 0, .int .u8 0, .int .u8 0, .int .u8 0, .int .u8 0, .int .u8 0, .int .u8 0, .int .u8 0, .int .u8 0, .int .u8 0, .int .u8 0, .int .u8 0, .int .u8 0, .int .u8 0, .int .u8 0, .int .u8 0, .int .u8 0, .int .u8 0] 44)
            have hw10 := hHeld.size
            have hr8 := old_alloc hr8 (.cells #[.int .i64 0, .int .u8 0, .int .u8 0, .int .u8 0, .int .u8 0, .int .u8 0, .int .u8 0, .int .u8 0, .int .u8 0, .int .u8 0, .int .u8 0, .int .u8 0, .int .u8 0, .int .u8 0, .int .u8 0, .int .u8 0, .int .u8 0, .int .u8 0, .int .u8 0, .int .u8 0, .int .u8 0] 44)
            have hr11 := old_alloc hr11 (.cells #[.int .i64 0, .int .u8 0, .int .u8 0, .int .u8 0, .int .u8 0, .int .u8 0, .int .u8 0, .int .u8 0, .int .u8 0, .int .u8 0, .int .u8 0, .int .u8 0, .int .u8 0, .int .u8 0, .int .u8 0, .int .u8 0, .int .u8 0, .int .u8 0, .int .u8 0, .int .u8 0, .int .u8 0] 44)
            have hr9 := old_alloc hr9 (.cells #[.int .i64 0, .int .u8 0, .int .u8 0, .int .u8 0, .int .u8 0, .int .u8 0, .int .u8 0, .int .u8 0, .int .u8 0, .int .u8 0, .int .u8 0, .int .u8 0, .int .u8 0, .int .u8 0, .int .u8 0, .int .u8 0, .int .u8 0, .int .u8 0, .int .u8 0, .int .u8 0, .int .u8 0] 44)
            refine hK.out _ _ (hHeld.alloc hHeld.size _) (fun hNew => ?_)
            clear hK K hHeld
            have hHeld := hNew
            clear hNew
            (try simp only [Act.put, List.setIfInBounds_toArray, List.set_cons_zero, List.set_cons_succ])
            generalize hgg : ww3.heap.size = g10 at hr10 hw10 hl810 hl1110 hl910 ⊢
            generalize hvv : ww3.alloc (.cells #[.int .i64 0, .int .u8 0, .int .u8 0, .int .u8 0, .int .u8 0, .int .u8 0, .int .u8 0, .int .u8 0, .int .u8 0, .int .u8 0, .int .u8 0, .int .u8 0, .int .u8 0, .int .u8 0, .int .u8 0, .int .u8 0, .int .u8 0, .int .u8 0, .int .u8 0, .int .u8 0, .int .u8 0] 44) = ww4 at hr8 hr11 hr9 hr10 hHeld ⊢
            clear hgg hvv
            refine wpAnyH_ready (rs := [12]) (by decide +kernel) (by simp) ?_
            refine AllReadyH.cons (o := ?_) (by simp only [List.getElem?_toArray, List.getElem?_cons_zero, List.getElem?_cons_succ]; rfl) (fun K hK => ?_) AllReadyH.nil
            rw [if_pos (by rfl)]
            refine wp_store_row _ _ _ rfl g8 F1.toArray rfl rfl _ _ hr8 Hf1.out.1 Hf1.out.2.1 Hf1.out.2.2 ?_
            have hr9 := (setRow_other ww4 g8 g9 F1.toArray (Nat.ne_of_gt hl89)).trans hr9
            have hr10 := (setRow_other ww4 g8 g10 F1.toArray (Nat.ne_of_gt hl810)).trans hr10
            have hr11 := (setRow_other ww4 g8 g11 F1.toArray (Nat.ne_of_gt hl811)).trans hr11
            have hr8 := setRow_heap ww4 g8 _ F1.toArray _ _ hr8
            refine hK.out _ _ (below_setRow hHeld hw8 _) (fun hNew => ?_)
            clear hK K hHeld
            have hHeld := hNew
            clear hNew
            (try simp only [Act.put])
            generalize hvv : ww4.setRow g8 F1.toArray = xx1 at hr8 hr9 hr10 hr11 hHeld ⊢
            clear hvv
            refine wpAnyH_ready (rs := [13]) (by decide +kernel) (by simp) ?_
            refine AllReadyH.cons (o := ?_) (by simp only [List.getElem?_toArray, List.getElem?_cons_zero, List.getElem?_cons_succ]; rfl) (fun K hK => ?_) AllReadyH.nil
            rw [if_pos (by rfl)]
            refine wp_store_row _ _ _ rfl g9 F2.toArray rfl rfl _ _ hr9 Hf2.out.1 Hf2.out.2.1 Hf2.out.2.2 ?_
            have hr8 := (setRow_other xx1 g9 g8 F2.toArray (Nat.ne_of_lt hl89)).trans hr8
            have hr10 := (setRow_other xx1 g9 g10 F2.toArray (Nat.ne_of_gt hl910)).trans hr10
            have hr11 := (setRow_other xx1 g9 g11 F2.toArray (Nat.ne_of_lt hl119)).trans hr11
            have hr9 := setRow_heap xx1 g9 _ F2.toArray _ _ hr9
            refine hK.out _ _ (below_setRow hHeld hw9 _) (fun hNew => ?_)
            clear hK K hHeld
            have hHeld := hNew
            clear hNew
            (try simp only [Act.put])
            generalize hvv : xx1.setRow g9 F2.toArray = xx2 at hr8 hr9 hr10 hr11 hHeld ⊢
            clear hvv
            refine wpAnyH_ready (rs := [14]) (by decide +kernel) (by simp) ?_
            refine AllReadyH.cons (o := ?_) (by simp only [List.getElem?_toArray, List.getElem?_cons_zero, List.getElem?_cons_succ]; rfl) (fun K hK => ?_) AllReadyH.nil
            rw [if_pos (by rfl)]
            refine wp_store_row _ _ _ rfl g10 R1.toArray rfl rfl _ _ hr10 Hr1.out.1 Hr1.out.2.1 Hr1.out.2.2 ?_
            have hr8 := (setRow_other xx2 g10 g8 R1.toArray (Nat.ne_of_lt hl810)).trans hr8
            have hr9 := (setRow_other xx2 g10 g9 R1.toArray (Nat.ne_of_lt hl910)).trans hr9
            have hr11 := (setRow_other xx2 g10 g11 R1.toArray (Nat.ne_of_lt hl1110)).trans hr11
            have hr10 := setRow_heap xx2 g10 _ R1.toArray _ _ hr10
            refine hK.out _ _ (below_setRow hHeld hw10 _) (fun hNew => ?_)
            clear hK K hHeld
            have hHeld := hNew
            clear hNew
            (try simp only [Act.put])
            generalize hvv : xx2.setRow g10 R1.toArray = xx3 at hr8 hr9 hr10 hr11 hHeld ⊢
            clear hvv
            refine wpAnyH_ready (rs := [15]) (by decide +kernel) (by simp) ?_
            refine AllReadyH.cons (o := ?_) (by simp only [List.getElem?_toArray, List.getElem?_cons_zero, List.getElem?_cons_succ]; rfl) (fun K hK => ?_) AllReadyH.nil
            rw [if_pos (by rfl)]
            refine wp_store_row _ _ _ rfl g11 R2.toArray rfl rfl _ _ hr11 Hr2.out.1 Hr2.out.2.1 Hr2.out.2.2 ?_
            have hr8 := (setRow_other xx3 g11 g8 R2.toArray (Nat.ne_of_lt hl811)).trans hr8
            have hr9 := (setRow_other xx3 g11 g9 R2.toArray (Nat.ne_of_gt hl119)).trans hr9
            have hr10 := (setRow_other xx3 g11 g10 R2.toArray (Nat.ne_of_gt hl1110)).trans hr10
            have hr11 := setRow_heap xx3 g11 _ R2.toArray _ _ hr11
            refine hK.out _ _ (below_setRow hHeld hw11 _) (fun hNew => ?_)
            clear hK K hHeld
            have hHeld := hNew
            clear hNew
            (try simp only [Act.put])
            generalize hvv : xx3.setRow g11 R2.toArray = xx4 at hr8 hr9 hr10 hr11 hHeld ⊢
            clear hvv
            refine wpAnyH_done (by decide +kernel) ?_ _
            have HE : Hid (Cut1 F1 F2 R1 R2 w (.pointer (some ⟨g8, 0, none⟩)) (.pointer (some ⟨g9, 0, none⟩)) (.pointer (some ⟨g10, 0, none⟩)) (.pointer (some ⟨g11, 0, none⟩)) xx4) := ⟨g8, g9, g10, g11, rfl, rfl, rfl, rfl, hr8, hr9, hr10, hr11, HB2.out.trans (hHeld.mono HB2.out.size)⟩
            clear hr8 hr9 hr10 hr11 hHeld
            go_wp2_with fail
            go_meet
            exact HE
          exact AllReadyH.nil
        refine AllReadyH.cons (o := ?_) (by simp only [List.getElem?_toArray, List.getElem?_cons_zero, List.getElem?_cons_succ]; rfl) (fun K hK => ?_) ?_
        · go_simp
          have hl810 := row_lt hr8
          have hl1110 := row_lt hr11
          have hr10 := heap_alloc_new ww2 (.cells #[.int .i64 0, .int .u8 0, .int .u8 0, .int .u8 0, .int .u8 0, .int .u8 0, .int .u8 0, .int .u8 0, .int .u8 0, .int .u8 0, .int .u8 0, .int .u8 0, .int .u8 0, .int .u8 0, .int .u8 0, .int .u8 0, .int .u8 0, .int .u8 0, .int .u8 0, .int .u8 0, .int .u8 0] 44)
          have hw10 := hHeld.size
          have hr8 := old_alloc hr8 (.cells #[.int .i64 0, .int .u8 0, .int .u8 0, .int .u8 0, .int .u8 0, .int .u8 0, .int .u8 0, .int .u8 0, .int .u8 0, .int .u8 0, .int .u8 0, .int .u8 0, .int .u8 0, .int .u8 0, .int .u8 0, .int .u8 0, .int .u8 0, .int .u8 0, .int .u8 0, .int .u8 0, .int .u8 0] 44)
          have hr11 := old_alloc hr11 (.cells #[.int .i64 0, .int .u8 0, .int .u8 0, .int .u8 0, .int .u8 0, .int .u8 0, .int .u8 0, .int .u8 0, .int .u8 0, .int .u8 0, .int .u8 0, .int .u8 0, .int .u8 0, .int .u8 0, .int .u8 0, .int .u8 0, .int .u8 0, .int .u8 0, .int .u8 0, .int .u8 0, .int .u8 0] 44)
          refine hK.out _ _ (hHeld.alloc hHeld.size _) (fun hNew => ?_)
          clear hK K hHeld
          have hHeld := hNew
          clear hNew
          (try simp only [Act.put, List.setIfInBounds_toArray, List.set_cons_zero, List.set_cons_succ])
          generalize hgg : ww2.heap.size = g10 at hr10 hw10 hl810 hl1110 ⊢
          generalize hvv : ww2.alloc (.cells #[.int .i64 0, .int .u8 0, .int .u8 0, .int .u8 0, .int .u8 0, .int .u8 0, .int .u8 0, .int .u8 0, .int .u8 0, .int .u8 0, .int .u8 0, .int .u8 0, .int .u8 0, .int .u8 0, .int .u8 0, .int .u8 0, .int .u8 0, .int .u8 0, .int .u8 0, .int .u8 0, .int .u8 0] 44) = ww3 at hr8 hr11 hr10 hHeld ⊢
          clear hgg hvv
          refine wpAnyH_ready (rs := [9]) (by decide +kernel) (by simp) ?_
          refine AllReadyH.cons (o := ?_) (by simp only [List.getElem?_toArray, List.getElem?_cons_zero, List.getElem?_cons_succ]; rfl) (fun K hK => ?_) ?_
          · go_simp
            have hl89 := row_lt hr8
            have hl119 := row_lt hr11
            have hl109 := row_lt hr10
            have hr9 := heap_alloc_new ww3 (.cells #[.int .u8 0, .int .u8 0, .int .u8 0, .int .u8 0, .int .u8 0, .int .u8 0, .int .u8 0, .int .u8 0, .int .u8 0, .int .u8 0, .int .u8 0, .int .u8 0, .int .u16 0, .slice none 0 0] 27)
            have hw9 := hHeld.size
            have hr8 := old_alloc hr8 (.cells #[.int .u8 0, .int .u8 0, .int .u8 0, .int .u8 0, .int .u8 0, .int .u8 0, .int .u8 0, .int .u8 0, .int .u8 0, .int .u8 0, .int .u8 0, .int .u8 0, .int .u16 0, .slice none 0 0] 27)
            have hr11 := old_alloc hr11 (.cells #[.int .u8 0, .int .u8 0, .int .u8 0, .int .u8 0, .int .u8 0, .int .u8 0, .int .u8 0, .int .u8 0, .int .u8 0, .int .u8 0, .int .u8 0, .int .u8 0, .int .u16 0, .slice none 0 0] 27)
            have hr10 := old_alloc hr10 (.cells #[.int .u8 0, .int .u8 0, .int .u8 0, .int .u8 0, .int .u8 0, .int .u8 0, .int .u8 0, .int .u8 0, .int .u8 0, .int .u8 0, .int .u8 0, .int .u8 0, .int .u16 0, .slice none 0 0] 27)
            refine hK.out _ _ (hHeld.alloc hHeld.size _) (fun hNew => ?_)
            clear hK K hHeld
            have hHeld := hNew
            clear hNew
            (try simp only [Act.put, List.setIfInBounds_toArray, List.set_cons_zero, List.set_cons_succ])
            generalize hgg : ww3.heap.size = g9 at hr9 hw9 hl89 hl119 hl109 ⊢
            generalize hvv : ww3.alloc (.cells #[.int .u8 0, .int .u8 0, .int .u8 0, .int .u8 0, .int .u8 0, .int .u8 0, .int .u8 0, .int .u8 0, .int .u8 0, .int .u8 0, .int .u8 0, .int .u8 0, .int .u16 0, .slice none 0 0] 27) = ww4 at hr8 hr11 hr10 hr9 hHeld ⊢
            clear hgg hvv
            refine wpAnyH_ready (rs := [12]) (by decide +kernel) (by simp) ?_
            refine AllReadyH.cons (o := ?_) (by simp only [List.getElem?_toArray, List.getElem?_cons_zero, List.getElem?_cons_succ]; rfl) (fun K hK => ?_) AllReadyH.nil
            rw [if_pos (by rfl)]
            refine wp_store_row _ _ _ rfl g8 F1.toArray rfl rfl _ _ hr8 Hf1.out.1 Hf1.out.2.1 Hf1.out.2.2 ?_
            have hr9 := (setRow_other ww4 g8 g9 F1.toArray (Nat.ne_of_gt hl89)).trans hr9
            have hr10 := (setRow_other ww4 g8 g10 F1.toArray (Nat.ne_of_gt hl810)).trans hr10
            have hr11 := (setRow_other ww4 g8 g11 F1.toArray (Nat.ne_of_gt hl811)).trans hr11
            have hr8 := setRow_heap ww4 g8 _ F1.toArray _ _ hr8
            refine hK.out _ _ (below_setRow hHeld hw8 _) (fun hNew => ?_)
            clear hK K hHeld
            have hHeld := hNew
            clear hNew
            (try simp only [Act.put])
            generalize hvv : ww4.setRow g8 F1.toArray = xx1 at hr8 hr9 hr10 hr11 hHeld ⊢
            clear hvv
            refine wpAnyH_ready (rs := [13]) (by decide +kernel) (by simp) ?_
            refine AllReadyH.cons (o := ?_) (by simp only [List.getElem?_toArray, List.getElem?_cons_zero, List.getElem?_cons_succ]; rfl) (fun K hK => ?_) AllReadyH.nil
            rw [if_pos (by rfl)]
            refine wp_store_row _ _ _ rfl g9 F2.toArray rfl rfl _ _ hr9 Hf2.out.1 Hf2.out.2.1 Hf2.out.2.2 ?_
            have hr8 := (setRow_other xx1 g9 g8 F2.toArray (Nat.ne_of_lt hl89)).trans hr8
            have hr10 := (setRow_other xx1 g9 g10 F2.toArray (Nat.ne_of_lt hl109)).trans hr10
            have hr11 := (setRow_other xx1 g9 g11 F2.toArray (Nat.ne_of_lt hl119)).trans hr11
            have hr9 := setRow_heap xx1 g9 _ F2.toArray _ _ hr9
            refine hK.out _ _ (below_setRow hHeld hw9 _) (fun hNew => ?_)
            clear hK K hHeld
            have hHeld := hNew
            clear hNew
            (try simp only [Act.put])
            generalize hvv : xx1.setRow g9 F2.toArray = xx2 at hr8 hr9 hr10 hr11 hHeld ⊢
            clear hvv
            refine wpAnyH_ready (rs := [14]) (by decide +kernel) (by simp) ?_
            refine AllReadyH.cons (o := ?_) (by simp only [List.getElem?_toArray, List.getElem?_cons_zero, List.getElem?_cons_succ]; rfl) (fun K hK => ?_) AllReadyH.nil
            rw [if_pos (by rfl)]
            refine wp_store_row _ _ _ rfl g10 R1.toArray rfl rfl _ _ hr10 Hr1.out.1 Hr1.out.2.1 Hr1.out.2.2 ?_
            have hr8 := (setRow_other xx2 g10 g8 R1.toArray (Nat.ne_of_lt hl810)).trans hr8
            have hr9 := (setRow_other xx2 g10 g9 R1.toArray (Nat.ne_of_gt hl109)).trans hr9
            have hr11 := (setRow_other xx2 g10 g11 R1.toArray (Nat.ne_of_lt hl1110)).trans hr11
            have hr10 := setRow_heap xx2 g10 _ R1.toArray _ _ hr10
            refine hK.out _ _ (below_setRow hHeld hw10 _) (fun hNew => ?_)
            clear hK K hHeld
            have hHeld := hNew
            clear hNew
            (try simp only [Act.put])
            generalize hvv : xx2.setRow g10 R1.toArray = xx3 at hr8 hr9 hr10 hr11 hHeld ⊢
            clear hvv
            refine wpAnyH_ready (rs := [15]) (by decide +kernel) (by simp) ?_
            refine AllReadyH.cons (o := ?_) (by simp only [List.getElem?_toArray, List.getElem?_cons_zero, List.getElem?_cons_succ]; rfl) (fun K hK => ?_) AllReadyH.nil
            rw [if_pos (by rfl)]
            refine wp_store_row _ _ _ rfl g11 R2.toArray rfl rfl _ _ hr11 Hr2.out.1 Hr2.out.2.1 Hr2.out.2.2 ?_
            have hr8 := (setRow_other xx3 g11 g8 R2.toArray (Nat.ne_of_lt hl811)).trans hr8
            have hr9 := (setRow_other xx3 g11 g9 R2.toArray (Nat.ne_of_gt hl119)).trans hr9
            have hr10 := (setRow_other xx3 g11 g10 R2.toArray (Nat.ne_of_gt hl1110)).trans hr10
            have hr11 := setRow_heap xx3 g11 _ R2.toArray _ _ hr11
            refine hK.out _ _ (below_setRow hHeld hw11 _) (fun hNew => ?_)
            clear hK K hHeld
            have hHeld := hNew
            clear hNew
            (try simp only [Act.put])
            generalize hvv : xx3.setRow g11 R2.toArray = xx4 at hr8 hr9 hr10 hr11 hHeld ⊢
            clear hvv
            refine wpAnyH_done (by decide +kernel) ?_ _
            have HE : Hid (Cut1 F1 F2 R1 R2 w (.pointer (some ⟨g8, 0, none⟩)) (.pointer (some ⟨g9, 0, none⟩)) (.pointer (some ⟨g10, 0, none⟩)) (.pointer (some ⟨g11, 0, none⟩)) xx4) := ⟨g8, g9, g10, g11, rfl, rfl, rfl, rfl, hr8, hr9, hr10, hr11, HB2.out.trans (hHeld.mono HB2.out.size)⟩
            clear hr8 hr9 hr10 hr11 hHeld
            go_wp2_with fail
            go_meet
            exact HE
          exact AllReadyH.nil
        exact AllReadyH.nil
      exact AllReadyH.nil
    refine AllReadyH.cons (o := ?_) (by simp only [List.getElem?_toArray, List.getElem?_cons_zero, List.getElem?_cons_succ]; rfl) (fun K hK => ?_) ?_
    · go_simp
      have hr9 := heap_alloc_new wd (.cells #[.int .u8 0, .int .u8 0, .int .u8 0, .int .u8 0, .int .u8 0, .int .u8 0, .int .u8 0, .int .u8 0, .int .u8 0, .int .u8 0, .int .u8 0, .int .u8 0, .int .u16 0, .slice none 0 0] 27)
      have hw9 := hHeld.size
      refine hK.out _ _ (hHeld.alloc hHeld.size _) (fun hNew => ?_)
      clear hK K hHeld
      have hHeld := hNew
      clear hNew
      (try simp only [Act.put, List.setIfInBounds_toArray, List.set_cons_zero, List.set_cons_succ])
      generalize hgg : wd.heap.size = g9 at hr9 hw9  ⊢
      generalize hvv : wd.alloc (.cells #[.int .u8 0, .int .u8 0, .int .u8 0, .int .u8 0, .int .u8 0, .int .u8 0, .int .u8 0, .int .u8 0, .int .u8 0, .int .u8 0, .int .u8 0, .int .u8 0, .int .u16 0, .slice none 0 0] 27) = ww1 at hr9 hHeld ⊢
      clear hgg hvv
      refine wpAnyH_ready (rs := [8, 10, 11]) (by decide +kernel) (by simp) ?_
      refine AllReadyH.cons (o := ?_) (by simp only [List.getElem?_toArray, List.getElem?_cons_zero, List.getElem?_cons_succ]; rfl) (fun K hK => ?_) ?_
      · go_simp
        have hl98 := row_lt hr9
        have hr8 := heap_alloc_new ww1 (.cells #[.int .u8 0, .int .u8 0, .int .u8 0, .int .u8 0, .int .u8 0, .int .u8 0, .int .u8 0, .int .u8 0, .int .u8 0, .int .u8 0, .int .u8 0, .int .u8 0, .int .u16 0, .slice none 0 0] 27)
        have hw8 := hHeld.size
        have hr9 := old_alloc hr9 (.cells #[.int .u8 0, .int .u8 0, .int .u8 0, .int .u8 0, .int .u8 0, .int .u8 0, .int .u8 0, .int .u8 0, .int .u8 0, .int .u8 0, .int .u8 0, .int .u8 0, .int .u16 0, .slice none 0 0] 27)
        refine hK.out _ _ (hHeld.alloc hHeld.size _) (fun hNew => ?_)
        clear hK K hHeld
        have hHeld := hNew
        clear hNew
        (try simp only [Act.put, List.setIfInBounds_toArray, List.set_cons_zero, List.set_cons_succ])
        generalize hgg : ww1.heap.size = g8 at hr8 hw8 hl98 ⊢
        generalize hvv : ww1.alloc (.cells #[.int .u8 0, .int .u8 0, .int .u8 0, .int .u8 0, .int .u8 0, .int .u8 0, .int .u8 0, .int .u8 0, .int .u8 0, .int .u8 0, .int .u8 0, .int .u8 0, .int .u16 0, .slice none 0 0] 27) = ww2 at hr9 hr8 hHeld ⊢
        clear hgg hvv
        refine wpAnyH_ready (rs := [10, 11]) (by decide +kernel) (by simp) ?_
        refine AllReadyH.cons (o := ?_) (by simp only [List.getElem?_toArray, List.getElem?_cons_zero, List.getElem?_cons_succ]; rfl) (fun K hK => ?_) ?_
        · go_simp
          have hl910 := row_lt hr9
          have hl810 := row_lt hr8
          have hr10 := heap_alloc_new ww2 (.cells #[.int .i64 0, .int .u8 0, .int .u8 0, .int .u8 0, .int .u8 0, .int .u8 0, .int .u8 0, .int .u8 0, .int .u8 0, .int .u8 0, .int .u8 0, .int .u8 0, .int .u8 0, .int .u8 0, .int .u8 0, .int .u8 0, .int .u8 0, .int .u8 0, .int .u8 0, .int .u8 0, .int .u8 0] 44)
          have hw10 := hHeld.size
          have hr9 := old_alloc hr9 (.cells #[.int .i64 0, .int .u8 0, .int .u8 0, .int .u8 0, .int .u8 0, .int .u8 0, .int .u8 0, .int .u8 0, .int .u8 0, .int .u8 0, .int .u8 0, .int .u8 0, .int .u8 0, .int .u8 0, .int .u8 0, .int .u8 0, .int .u8 0, .int .u8 0, .int .u8 0, .int .u8 0, .int .u8 0] 44)
          have hr8 := old_alloc hr8 (.cells #[.int .i64 0, .int .u8 0, .int .u8 0, .int .u8 0, .int .u8 0, .int .u8 0, .int .u8 0, .int .u8 0, .int .u8 0, .int .u8 0, .int .u8 0, .int .u8 0, .int .u8 0, .int .u8 0, .int .u8 0, .int .u8 0, .int .u8 0, .int .u8 0, .int .u8 0, .int .u8 0, .int .u8 0] 44)
          refine hK.out _ _ (hHeld.alloc hHeld.size _) (fun hNew => ?_)
          clear hK K hHeld
          have hHeld := hNew
          clear hNew
          (try simp only [Act.put, List.setIfInBounds_toArray, List.set_cons_zero, List.set_cons_succ])
          generalize hgg : ww2.heap.size = g10 at hr10 hw10 hl910 hl810 ⊢
          generalize hvv : ww2.alloc (.cells #[.int .i64 0, .int .u8 0, .int .u8 0, .int .u8 0, .int .u8 0, .int .u8 0, .int .u8 0, .int .u8 0, .int .u8 0, .int .u8 0, .int .u8 0, .int .u8 0, .int .u8 0, .int .u8 0, .int .u8 0, .int .u8 0, .int .u8 0, .int .u8 0, .int .u8 0, .int .u8 0, .int .u8 0] 44) = ww3 at hr9 hr8 hr10 hHeld ⊢
          clear hgg hvv
          refine wpAnyH_ready (rs := [11]) (by decide +kernel) (by simp) ?_
          refine AllReadyH.cons (o := ?_) (by simp only [List.getElem?_toArray, List.getElem?_cons_zero, List.getElem?_cons_succ]; rfl) (fun K hK => ?_) ?_
          · go_simp
            have hl911 := row_lt hr9
            have hl811 := row_lt hr8
            have hl1011 := row_lt hr10
            have hr11 := heap_alloc_new ww3 (.cells #[.int .i64 0, .int .u8 0, .int .u8 0, .int .u8 0, .int .u8 0, .int .u8 0, .int .u8 0, .int .u8 0, .int .u8 0, .int .u8 0, .int .u8 0, .int .u8 0, .int .u8 0, .int .u8 0, .int .u8 0, .int .u8 0, .int .u8 0, .int .u8 0, .int .u8 0, .int .u8 0, .int .u8 0] 44)
            have hw11 := hHeld.size
            have hr9 := old_alloc hr9 (.cells #[.int .i64 0, .int .u8 0, .int .u8 0, .int .u8 0, .int .u8 0, .int .u8 0, .int .u8 0, .int .u8 0, .int .u8 0, .int .u8 0, .int .u8 0, .int .u8 0, .int .u8 0, .int .u8 0, .int .u8 0, .int .u8 0, .int .u8 0, .int .u8 0, .int .u8 0, .int .u8 0, .int .u8 0] 44)
            have hr8 := old_alloc hr8 (.cells #[.int .i64 0, .int .u8 0, .int .u8 0, .int .u8 0, .int .u8 0, .int .u8 0, .int .u8 0, .int .u8 0, .int .u8 0, .int .u8 0, .int .u8 0, .int .u8 0, .int .u8 0, .int .u8 0, .int .u8 0, .int .u8 0, .int .u8 0, .int .u8 0, .int .u8 0, .int .u8 0, .int .u8 0] 44)
            have hr10 := old_alloc hr10 (.cells #[.int .i64 0, .int .u8 0, .int .u8 0, .int .u8 0, .int .u8 0, .int .u8 0, .int .u8 0, .int .u8 0, .int .u8 0, .int .u8 0, .int .u8 0, .int .u8 0, .int .u8 0, .int .u8 0, .int .u8 0, .int .u8 0, .int .u8 0, .int .u8 0, .int .u8 0, .int .u8 0, .int .u8 0] 44)
            refine hK.out _ _ (hHeld.alloc hHeld.size _) (fun hNew => ?_)
            clear hK K hHeld
            have hHeld := hNew
            clear hNew
            (try simp only [Act.put, List.setIfInBounds_toArray, List.set_cons_zero, List.set_cons_succ])
            generalize hgg : ww3.heap.size = g11 at hr11 hw11 hl911 hl811 hl1011 ⊢
            generalize hvv : ww3.alloc (.cells #[.int .i64 0, .int .u8 0, .int .u8 0, .int .u8 0, .int .u8 0, .int .u8 0, .int .u8 0, .int .u8 0, .int .u8 0, .int .u8 0, .int .u8 0, .int .u8 0, .int .u8 0, .int .u8 0, .int .u8 0, .int .u8 0, .int .u8 0, .int .u8 0, .int .u8 0, .int .u8 0, .int .u8 0] 44) = ww4 at hr9 hr8 hr10 hr11 hHeld ⊢
            clear hgg hvv
            refine wpAnyH_ready (rs := [12]) (by decide +kernel) (by simp) ?_
            refine AllReadyH.cons (o := ?_) (by simp only [List.getElem?_toArray, List.getElem?_cons_zero, List.getElem?_cons_succ]; rfl) (fun K hK => ?_) AllReadyH.nil
            rw [if_pos (by rfl)]
            refine wp_store_row _ _ _ rfl g8 F1.toArray rfl rfl _ _ hr8 Hf1.out.1 Hf1.out.2.1 Hf1.out.2.2 ?_
            have hr9 := (setRow_other ww4 g8 g9 F1.toArray (Nat.ne_of_lt hl98)).trans hr9
            have hr10 := (setRow_other ww4 g8 g10 F1.toArray (Nat.ne_of_gt hl810)).trans hr10
            have hr11 := (setRow_other ww4 g8 g11 F1.toArray (Nat.ne_of_gt hl811)).trans hr11
            have hr8 := setRow_heap ww4 g8 _ F1.toArray _ _ hr8
            refine hK.out _ _ (below_setRow hHeld hw8 _) (fun hNew => ?_)
            clear hK K hHeld
            have hHeld := hNew
            clear hNew
            (try simp only [Act.put])
            generalize hvv : ww4.setRow g8 F1.toArray = xx1 at hr8 hr9 hr10 hr11 hHeld ⊢
            clear hvv
            refine wpAnyH_ready (rs := [13]) (by decide +kernel) (by simp) ?_
            refine AllReadyH.cons (o := ?_) (by simp only [List.getElem?_toArray, List.getElem?_cons_zero, List.getElem?_cons_succ]; rfl) (fun K hK => ?_) AllReadyH.nil
            rw [if_pos (by rfl)]
            refine wp_store_row _ _ _ rfl g9 F2.toArray rfl rfl _ _ hr9 Hf2.out.1 Hf2.out.2.1 Hf2.out.2.2 ?_
            have hr8 := (setRow_other xx1 g9 g8 F2.toArray (Nat.ne_of_gt hl98)).trans hr8
            have hr10 := (setRow_other xx1 g9 g10 F2.toArray (Nat.ne_of_gt hl910)).trans hr10
            have hr11 := (setRow_other xx1 g9 g11 F2.toArray (Nat.ne_of_gt hl911)).trans hr11
            have hr9 := setRow_heap xx1 g9 _ F2.toArray _ _ hr9
            refine hK.out _ _ (below_setRow hHeld hw9 _) (fun hNew => ?_)
            clear hK K hHeld
            have hHeld := hNew
            clear hNew
            (try simp only [Act.put])
            generalize hvv : xx1.setRow g9 F2.toArray = xx2 at hr8 hr9 hr10 hr11 hHeld ⊢
            clear hvv
            refine wpAnyH_ready (rs := [14]) (by decide +kernel) (by simp) ?_
            refine AllReadyH.cons (o := ?_) (by simp only [List.getElem?_toArray, List.getElem?_cons_zero, List.getElem?_cons_succ]; rfl) (fun K hK => ?_) AllReadyH.nil
            rw [if_pos (by rfl)]
            refine wp_store_row _ _ _ rfl g10 R1.toArray rfl rfl _ _ hr10 Hr1.out.1 Hr1.out.2.1 Hr1.out.2.2 ?_
            have hr8 := (setRow_other xx2 g10 g8 R1.toArray (Nat.ne_of_lt hl810)).trans hr8
            have hr9 := (setRow_other xx2 g10 g9 R1.toArray (Nat.ne_of_lt hl910)).trans hr9
            have hr11 := (setRow_other xx2 g10 g11 R1.toArray (Nat.ne_of_gt hl1011)).trans hr11
            have hr10 := setRow_heap xx2 g10 _ R1.toArray _ _ hr10
            refine hK.out _ _ (below_setRow hHeld hw10 _) (fun hNew => ?_)
            clear hK K hHeld
            have hHeld := hNew
            clear hNew
            (try simp only [Act.put])
            generalize hvv : xx2.setRow g10 R1.toArray = xx3 at hr8 hr9 hr10 hr11 hHeld ⊢
            clear hvv
            refine wpAnyH_ready (rs := [15]) (by decide +kernel) (by simp) ?_
            refine AllReadyH.cons (o := ?_) (by simp only [List.getElem?_toArray, List.getElem?_cons_zero, List.getElem?_cons_succ]; rfl) (fun K hK => ?_) AllReadyH.nil
            rw [if_pos (by rfl)]
            refine wp_store_row _ _ _ rfl g11 R2.toArray rfl rfl _ _ hr11 Hr2.out.1 Hr2.out.2.1 Hr2.out.2.2 ?_
            have hr8 := (setRow_other xx3 g11 g8 R2.toArray (Nat.ne_of_lt hl811)).trans hr8
            have hr9 := (setRow_other xx3 g11 g9 R2.toArray (Nat.ne_of_lt hl911)).trans hr9
            have hr10 := (setRow_other xx3 g11 g10 R2.toArray (Nat.ne_of_lt hl1011)).trans hr10
            have hr11 := setRow_heap xx3 g11 _ R2.toArray _ _ hr11
            refine hK.out _ _ (below_setRow hHeld hw11 _) (fun hNew => ?_)
            clear hK K hHeld
            have hHeld := hNew
            clear hNew
            (try simp only [Act.put])
            generalize hvv : xx3.setRow g11 R2.toArray = xx4 at hr8 hr9 hr10 hr11 hHeld ⊢
            clear hvv
            refine wpAnyH_done (by decide +kernel) ?_ _
            have HE : Hid (Cut1 F1 F2 R1 R2 w (.pointer (some ⟨g8, 0, none⟩)) (.pointer (some ⟨g9, 0, none⟩)) (.pointer (some ⟨g10, 0, none⟩)) (.pointer (some ⟨g11, 0, none⟩)) xx4) := ⟨g8, g9, g10, g11, rfl, rfl, rfl, rfl, hr8, hr9, hr10, hr11, HB2.out.trans (hHeld.mono HB2.out.size)⟩
            clear hr8 hr9 hr10 hr11 hHeld
            go_wp2_with fail
            go_meet
            exact HE
          exact AllReadyH.nil
        refine AllReadyH.cons (o := ?_) (by simp only [List.getElem?_toArray, List.getElem?_cons_zero, List.getElem?_cons_succ]; rfl) (fun K hK => ?_) ?_
        · go_simp
          have hl911 := row_lt hr9
          have hl811 := row_lt hr8
          have hr11 := heap_alloc_new ww2 (.cells #[.int .i64 0, .int .u8 0, .int .u8 0, .int .u8 0, .int .u8 0, .int .u8 0, .int .u8 0, .int .u8 0, .int .u8 0, .int .u8 0, .int .u8 0, .int .u8 0, .int .u8 0, .int .u8 0, .int .u8 0, .int .u8 0, .int .u8 0, .int .u8 0, .int .u8 0, .int .u8 0, .int .u8 0] 44)
          have hw11 := hHeld.size
          have hr9 := old_alloc hr9 (.cells #[.int .i64 0, .int .u8 0, .int .u8 0, .int .u8 0, .int .u8 0, .int .u8 0, .int .u8 0, .int .u8 0, .int .u8 0, .int .u8 0, .int .u8 0, .int .u8 0, .int .u8 0, .int .u8 0, .int .u8 0, .int .u8 0, .int .u8 0, .int .u8 0, .int .u8 0, .int .u8 0, .int .u8 0] 44)
          have hr8 := old_alloc hr8 (.cells #[.int .i64 0, .int .u8 0, .int .u8 0, .int .u8 0, .int .u8 0, .int .u8 0, .int .u8 0, .int .u8 0, .int .u8 0, .int .u8 0, .int .u8 0, .int .u8 0, .int .u8 0, .int .u8 0, .int .u8 0, .int .u8 0, .int .u8 0, .int .u8 0, .int .u8 0, .int .u8 0, .int .u8 0] 44)
          refine hK.out _ _ (hHeld.alloc hHeld.size _) (fun hNew => ?_)
          clear hK K hHeld
          have hHeld := hNew
          clear hNew
          (try simp only [Act.put, List.setIfInBounds_toArray, List.set_cons_zero, List.set_cons_succ])
          generalize hgg : ww2.heap.size = g11 at hr11 hw11 hl911 hl811 ⊢
          generalize hvv : ww2.alloc (.cells #[.int .i64 0, .int .u8 0, .int .u8 0, .int .u8 0, .int .u8 0, .int .u8 0, .int .u8 0, .int .u8 0, .int .u8 0, .int .u8 0, .int .u8 0, .int .u8 0, .int .u8 0, .int .u8 0, .int .u8 0, .int .u8 0, .int .u8 0, .int .u8 0, .int .u8 0, .int .u8 0, .int .u8 0] 44) = ww3 at hr9 hr8 hr11 hHeld ⊢
          clear hgg hvv
          refine wpAnyH_ready (rs := [10]) (by decide +kernel) (by simp) ?_
          refine AllReadyH.cons (o := ?_) (by simp only [List.getElem?_toArray, List.getElem?_cons_zero, List.getElem?_cons_succ]; rfl) (fun K hK => ?_) ?_
          · go_simp
            have hl910 := row_lt hr9
            have hl810 := row_lt hr8
            have hl1110 := row_lt hr11
            have hr10 := heap_alloc_new ww3 (.cells #[.int .i64 0, .int .u8 0, .int .u8 0, .int .u8 0, .int .u8 0, .int .u8 0, .int .u8 0, .int .u8 0, .int .u8 0, .int .u8 0, .int .u8 0, .int .u8 0, .int .u8 0, .int .u8 0, .int .u8 0, .int .u8 0, .int .u8 0, .int .u8 0, .int .u8 0, .int .u8 0, .int .u8 0] 44)
            have hw10 := hHeld.size
            have hr9 := old_alloc hr9 (.cells #[.int .i64 0, .int .u8 0, .int .u8 0, .int .u8 0, .int .u8 0, .int .u8 0, .int .u8 0, .int .u8 0, .int .u8 0, .int .u8 0, .int .u8 0, .int .u8 0, .int .u8 0, .int .u8 0, .int .u8 0, .int .u8 0, .int .u8 0, .int .u8 0, .int .u8 0, .int .u8 0, .int .u8 0] 44)
            have hr8 := old_alloc hr8 (.cells #[.int .i64 0, .int .u8 0, .int .u8 0, .int .u8 0, .int .u8 0, .int .u8 0, .int .u8 0, .int .u8 0, .int .u8 0, .int .u8 0, .int .u8 0, .int .u8 0, .int .u8 0, .int .u8 0, .int .u8 0, .int .u8 0, .int .u8 0, .int .u8 0, .int .u8 0, .int .u8 0, .int .u8 0] 44)
            have hr11 := old_alloc hr11 (.cells #[.int .i64 0, .int .u8 0, .int .u8 0, .int .u8 0, .int .u8 0, .int .u8 0, .int .u8 0, .int .u8 0, .int .u8 0, .int .u8 0, .int .u8 0, .int .u8 0, .int .u8 0, .int .u8 0, .int .u8 0, .int .u8 0, .int .u8 0, .int .u8 0, .int .u8 0, .int .u8 0, .int .u8 0] 44)
            refine hK.out _ _ (hHeld.alloc hHeld.size _) (fun hNew => ?_)
            clear hK K hHeld
            have hHeld := hNew
            clear hNew
            (try simp only [Act.put, List.setIfInBounds_toArray, List.set_cons_zero, List.set_cons_succ])
            generalize hgg : ww3.heap.size = g10 at hr10 hw10 hl910 hl810 hl1110 ⊢
            generalize hvv : ww3.alloc (.cells #[.int .i64 0, .int .u8 0, .int .u8 0, .int .u8 0, .int .u8 0, .int .u8 0, .int .u8 0, .int .u8 0, .int .u8 0, .int .u8 0, .int .u8 0, .int .u8 0, .int .u8 0, .int .u8 0, .int .u8 0, .int .u8 0, .int .u8 0, .int .u8 0, .int .u8 0, .int .u8 0, .int .u8 0] 44) = ww4 at hr9 hr8 hr11 hr10 hHeld ⊢
            clear hgg hvv
            refine wpAnyH_ready (rs := [12]) (by decide +kernel) (by simp) ?_
            refine AllReadyH.cons (o := ?_) (by simp only [List.getElem?_toArray, List.getElem?_cons_zero, List.getElem?_cons_succ]; rfl) (fun K hK => ?_) AllReadyH.nil
            rw [if_pos (by rfl)]
            refine wp_store_row _ _ _ rfl g8 F1.toArray rfl rfl _ _ hr8 Hf1.out.1 Hf1.out.2.1 Hf1.out.2.2 ?_
            have hr9 := (setRow_other ww4 g8 g9 F1.toArray (Nat.ne_of_lt hl98)).trans hr9
            have hr10 := (setRow_other ww4 g8 g10 F1.toArray (Nat.ne_of_gt hl810)).trans hr10
            have hr11 := (setRow_other ww4 g8 g11 F1.toArray (Nat.ne_of_gt hl811)).trans hr11
            have hr8 := setRow_heap ww4 g8 _ F1.toArray _ _ hr8
            refine hK.out _ _ (below_setRow hHeld hw8 _) (fun hNew => ?_)
            clear hK K hHeld
            have hHeld := hNew
            clear hNew
            (try simp only [Act.put])
            generalize hvv : ww4.setRow g8 F1.toArray = xx1 at hr8 hr9 hr10 hr11 hHeld ⊢
            clear hvv
            refine wpAnyH_ready (rs := [13]) (by decide +kernel) (by simp) ?_
            refine AllReadyH.cons (o := ?_) (by simp only [List.getElem?_toArray, List.getElem?_cons_zero, List.getElem?_cons_succ]; rfl) (fun K hK => ?_) AllReadyH.nil
            rw [if_pos (by rfl)]
            refine wp_store_row _ _ _ rfl g9 F2.toArray rfl rfl _ _ hr9 Hf2.out.1 Hf2.out.2.1 Hf2.out.2.2 ?_
            have hr8 := (setRow_other xx1 g9 g8 F2.toArray (Nat.ne_of_gt hl98)).trans hr8
            have hr10 := (setRow_other xx1 g9 g10 F2.toArray (Nat.ne_of_gt hl910)).trans hr10
            have hr11 := (setRow_other xx1 g9 g11 F2.toArray (Nat.ne_of_gt hl911)).trans hr11
            have hr9 := setRow_heap xx1 g9 _ F2.toArray _ _ hr9
            refine hK.out _ _ (below_setRow hHeld hw9 _) (fun hNew => ?_)
            clear hK K hHeld
            have hHeld := hNew
            clear hNew
            (try simp only [Act.put])
            generalize hvv : xx1.setRow g9 F2.toArray = xx2 at hr8 hr9 hr10 hr11 hHeld ⊢
            clear hvv
            refine wpAnyH_ready (rs := [14]) (by decide +kernel) (by simp) ?_
            refine AllReadyH.cons (o := ?_) (by simp only [List.getElem?_toArray, List.getElem?_cons_zero, List.getElem?_cons_succ]; rfl) (fun K hK => ?_) AllReadyH.nil
            rw [if_pos (by rfl)]
            refine wp_store_row _ _ _ rfl g10 R1.toArray rfl rfl _ _ hr10 Hr1.out.1 Hr1.out.2.1 Hr1.out.2.2 ?_
            have hr8 := (setRow_other xx2 g10 g8 R1.toArray (Nat.ne_of_lt hl810)).trans hr8
            have hr9 := (setRow_other xx2 g10 g9 R1.toArray (Nat.ne_of_lt hl910)).trans hr9
            have hr11 := (setRow_other xx2 g10 g11 R1.toArray (Nat.ne_of_lt hl1110)).trans hr11
            have hr10 := setRow_heap xx2 g10 _ R1.toArray _ _ hr10
            refine hK.out _ _ (below_setRow hHeld hw10 _) (fun hNew => ?_)
            clear hK K hHeld
            have hHeld := hNew
            clear hNew
            (try simp only [Act.put])
            generalize hvv : xx2.setRow g10 R1.toArray = xx3 at hr8 hr9 hr10 hr11 hHeld ⊢
            clear hvv
            refine wpAnyH_ready (rs := [15]) (by decide +kernel) (by simp) ?_
            refine AllReadyH.cons (o := ?_) (by simp only [List.getElem?_toArray, List.getElem?_cons_zero, List.getElem?_cons_succ]; rfl) (fun K hK => ?_) AllReadyH.nil
            rw [if_pos (by rfl)]
            refine wp_store_row _ _ _ rfl g11 R2.toArray rfl rfl _ _ hr11 Hr2.out.1 Hr2.out.2.1 Hr2.out.2.2 ?_
            have hr8 := (setRow_other xx3 g11 g8 R2.toArray (Nat.ne_of_lt hl811)).trans hr8
            have hr9 := (setRow_other xx3 g11 g9 R2.toArray (Nat.ne_of_lt hl911)).trans hr9
            have hr10 := (setRow_other xx3 g11 g10 R2.toArray (Nat.ne_of_gt hl1110)).trans hr10
            have hr11 := setRow_heap xx3 g11 _ R2.toArray _ _ hr11
            refine hK.out _ _ (below_setRow hHeld hw11 _) (fun hNew => ?_)
            clear hK K hHeld
            have hHeld := hNew
            clear hNew
            (try simp only [Act.put])
            generalize hvv : xx3.setRow g11 R2.toArray = xx4 at hr8 hr9 hr10 hr11 hHeld ⊢
            clear hvv
            refine wpAnyH_done (by decide +kernel) ?_ _
            have HE : Hid (Cut1 F1 F2 R1 R2 w (.pointer (some ⟨g8, 0, none⟩)) (.pointer (some ⟨g9, 0, none⟩)) (.pointer (some ⟨g10, 0, none⟩)) (.pointer (some ⟨g11, 0, none⟩)) xx4) := ⟨g8, g9, g10, g11, rfl, rfl, rfl, rfl, hr8, hr9, hr10, hr11, HB2.out.trans (hHeld.mono HB2.out.size)⟩
            clear hr8 hr9 hr10 hr11 hHeld
            go_wp2_with fail
            go_meet
            exact HE
          exact AllReadyH.nil
        exact AllReadyH.nil
      refine AllReadyH.cons (o := ?_) (by simp only [List.getElem?_toArray, List.getElem?_cons_zero, List.getElem?_cons_succ]; rfl) (fun K hK => ?_) ?_
      · go_simp
        have hl910 := row_lt hr9
        have hr10 := heap_alloc_new ww1 (.cells #[.int .i64 0, .int .u8 0, .int .u8 0, .int .u8 0, .int .u8 0, .int .u8 0, .int .u8 0, .int .u8 0, .int .u8 0, .int .u8 0, .int .u8 0, .int .u8 0, .int .u8 0, .int .u8 0, .int .u8 0, .int .u8 0, .int .u8 0, .int .u8 0, .int .u8 0, .int .u8 0, .int .u8 0] 44)
        have hw10 := hHeld.size
        have hr9 := old_alloc hr9 (.cells #[.int .i64 0, .int .u8 0, .int .u8 0, .int .u8 0, .int .u8 0, .int .u8 0, .int .u8 0, .int .u8 0, .int .u8 0, .int .u8 0, .int .u8 0, .int .u8 0, .int .u8 0, .int .u8 0, .int .u8 0, .int .u8 0, .int .u8 0, .int .u8 0, .int .u8 0, .int .u8 0, .int .u8 0] 44)
        refine hK.out _ _ (hHeld.alloc hHeld.size _) (fun hNew => ?_)
        clear hK K hHeld
        have hHeld := hNew
        clear hNew
        (try simp only [Act.put, List.setIfInBounds_toArray, List.set_cons_zero, List.set_cons_succ])
        generalize hgg : ww1.heap.size = g10 at hr10 hw10 hl910 ⊢
        generalize hvv : ww1.alloc (.cells #[.int .i64 0, .int .u8 0, .int .u8 0, .int .u8 0, .int .u8 0, .int .u8 0, .int .u8 0, .int .u8 0, .int .u8 0, .int .u8 0, .int .u8 0, .int .u8 0, .int .u8 0, .int .u8 0, .int .u8 0, .int .u8 0, .int .u8 0, .int .u8 0, .int .u8 0, .int .u8 0, .int .u8 0] 44) = ww2 at hr9 hr10 hHeld ⊢
        clear hgg hvv
        refine wpAnyH_ready (rs := [8, 11]) (by decide +kernel) (by simp) ?_
        refine AllReadyH.cons (o := ?_) (by simp only [List.getElem?_toArray, List.getElem?_cons_zero, List.getElem?_cons_succ]; rfl) (fun K hK => ?_) ?_
        · go_simp
          have hl98 := row_lt hr9
          have hl108 := row_lt hr10
          have hr8 := heap_alloc_new ww2 (.cells #[.int .u8 0, .int .u8 0, .int .u8 0, .int .u8 0, .int .u8 0, .int .u8 0, .int .u8 0, .int .u8 0, .int .u8 0, .int .u8 0, .int .u8 0, .int .u8 0, .int .u16 0, .slice none 0 0] 27)
          have hw8 := hHeld.size
          have hr9 := old_alloc hr9 (.cells #[.int .u8 0, .int .u8 0, .int .u8 0, .int .u8 0, .int .u8 0, .int .u8 0, .int .u8 0, .int .u8 0, .int .u8 0, .int .u8 0, .int .u8 0, .int .u8 0, .int .u16 0, .slice none 0 0] 27)
          have hr10 := old_alloc hr10 (.cells #[.int .u8 0, .int .u8 0, .int .u8 0, .int .u8 0, .int .u8 0, .int .u8 0, .int .u8 0, .int .u8 0, .int .u8 0, .int .u8 0, .int .u8 0, .int .u8 0, .int .u16 0, .slice none 0 0] 27)
          refine hK.out _ _ (hHeld.alloc hHeld.size _) (fun hNew => ?_)
          clear hK K hHeld
          have hHeld := hNew
          clear hNew
          (try simp only [Act.put, List.setIfInBounds_toArray, List.set_cons_zero, List.set_cons_succ])
          generalize hgg : ww2.heap.size = g8 at hr8 hw8 hl98 hl108 ⊢
          generalize hvv : ww2.alloc (.cells #[.int .u8 0, .int .u8 0, .int .u8 0, .int .u8 0, .int .u8 0, .int .u8 0, .int .u8 0, .int .u8 0, .int .u8 0, .int .u8 0, .int .u8 0, .int .u8 0, .int .u16 0, .slice none 0 0] 27) = ww3 at hr9 hr10 hr8 hHeld ⊢
          clear hgg hvv
          refine wpAnyH_ready (rs := [11]) (by decide +kernel) (by simp) ?_
          refine AllReadyH.cons (o := ?_) (by simp only [List.getElem?_toArray, List.getElem?_cons_zero, List.getElem?_cons_succ]; rfl) (fun K hK => ?_) ?_
          · go_simp
            have hl911 := row_lt hr9
            have hl1011 := row_lt hr10
            have hl811 := row_lt hr8
            have hr11 := heap_alloc_new ww3 (.cells #[.int .i64 0, .int .u8 0, .int .u8 0, .int .u8 0, .int .u8 0, .int .u8 0, .int .u8 0, .int .u8 0, .int .u8 0, .int .u8 0, .int .u8 0, .int .u8 0, .int .u8 0, .int .u8 0, .int .u8 0, .int .u8 0, .int .u8 0, .int .u8 0, .int .u8 0, .int .u8 0, .int .u8 0] 44)
            have hw11 := hHeld.size
            have hr9 := old_alloc hr9 (.cells #[.int .i64 0, .int .u8 0, .int .u8 0, .int .u8 0, .int .u8 0, .int .u8 0, .int .u8 0, .int .u8 0, .int .u8 0, .int .u8 0, .int .u8 0, .int .u8 0, .int .u8 0, .int .u8 0, .int .u8 0, .int .u8 0, .int .u8 0, .int .u8 0, .int .u8 0, .int .u8 0, .int .u8 0] 44)
            have hr10 := old_alloc hr10 (.cells #[.int .i64 0, .int .u8 0, .int .u8 0, .int .u8 0, .int .u8 0, .int .u8 0, .int .u8 0, .int .u8 0, .int .u8 0, .int .u8 0, .int .u8 0, .int .u8 0, .int .u8 0, .int .u8 0, .int .u8 0, .int .u8 0, .int .u8 0, .int .u8 0, .int .u8 0, .int .u8 0, .int .u8 0] 44)
            have hr8 := old_alloc hr8 (.cells #[.int .i64 0, .int .u8 0, .int .u8 0, .int .u8 0, .int .u8 0, .int .u8 0, .int .u8 0, .int .u8 0, .int .u8 0, .int .u8 0, .int .u8 0, .int .u8 0, .int .u8 0, .int .u8 0, .int .u8 0, .int .u8 0, .int .u8 0, .int .u8 0, .int .u8 0, .int .u8 0, .int .u8 0] 44)
            refine hK.out _ _ (hHeld.alloc hHeld.size _) (fun hNew => ?_)
            clear hK K hHeld
            have hHeld := hNew
            clear hNew
            (try simp only [Act.put, List.setIfInBounds_toArray, List.set_cons_zero, List.set_cons_succ])
            generalize hgg : ww3.heap.size = g11 at hr11 hw11 hl911 hl1011 hl811 ⊢
            generalize hvv : ww3.alloc (.cells #[.int .i64 0, .int .u8 0, .int .u8 0, .int .u8 0, .int .u8 0, .int .u8 0, .int .u8 0, .int .u8 0, .int .u8 0, .int .u8 0, .int .u8 0, .int .u8 0, .int .u8 0, .int .u8 0, .int .u8 0, .int .u8 0, .int .u8 0, .int .u8 0, .int .u8 0, .int .u8 0, .int .u8 0] 44) = ww4 at hr9 hr10 hr8 hr11 hHeld ⊢
            clear hgg hvv
            refine wpAnyH_ready (rs := [12]) (by decide +kernel) (by simp) ?_
            refine AllReadyH.cons (o := ?_) (by simp only [List.getElem?_toArray, List.getElem?_cons_zero, List.getElem?_cons_succ]; rfl) (fun K hK => ?_) AllReadyH.nil
            rw [if_pos (by rfl)]
            refine wp_store_row _ _ _ rfl g8 F1.toArray rfl rfl _ _ hr8 Hf1.out.1 Hf1.out.2.1 Hf1.out.2.2 ?_
            have hr9 := (setRow_other ww4 g8 g9 F1.toArray (Nat.ne_of_lt hl98)).trans hr9
            have hr10 := (setRow_other ww4 g8 g10 F1.toArray (Nat.ne_of_lt hl108)).trans hr10
            have hr11 := (setRow_other ww4 g8 g11 F1.toArray (Nat.ne_of_gt hl811)).trans hr11
            have hr8 := setRow_heap ww4 g8 _ F1.toArray _ _ hr8
            refine hK.out _ _ (below_setRow hHeld hw8 _) (fun hNew => ?_)
            clear hK K hHeld
            have hHeld := hNew
            clear hNew
            (try simp only [Act.put])
            generalize hvv : ww4.setRow g8 F1.toArray = xx1 at hr8 hr9 hr10 hr11 hHeld ⊢
            clear hvv
            refine wpAnyH_ready (rs := [13]) (by decide +kernel) (by simp) ?_
            refine AllReadyH.cons (o := ?_) (by simp only [List.getElem?_toArray, List.getElem?_cons_zero, List.getElem?_cons_succ]; rfl) (fun K hK => ?_) AllReadyH.nil
            rw [if_pos (by rfl)]
            refine wp_store_row _ _ _ rfl g9 F2.toArray rfl rfl _ _ hr9 Hf2.out.1 Hf2.out.2.1 Hf2.out.2.2 ?_
            have hr8 := (setRow_other xx1 g9 g8 F2.toArray (Nat.ne_of_gt hl98)).trans hr8
            have hr10 := (setRow_other xx1 g9 g10 F2.toArray (Nat.ne_of_gt hl910)).trans hr10
            have hr11 := (setRow_other xx1 g9 g11 F2.toArray (Nat.ne_of_gt hl911)).trans hr11
            have hr9 := setRow_heap xx1 g9 _ F2.toArray _ _ hr9
            refine hK.out _ _ (below_setRow hHeld hw9 _) (fun hNew => ?_)
            clear hK K hHeld
            have hHeld := hNew
            clear hNew
            (try simp only [Act.put])
            generalize hvv : xx1.setRow g9 F2.toArray = xx2 at hr8 hr9 hr10 hr11 hHeld ⊢
            clear hvv
            refine wpAnyH_ready (rs := [14]) (by decide +kernel) (by simp) ?_
            refine AllReadyH.cons (o := ?_) (by simp only [List.getElem?_toArray, List.getElem?_cons_zero, List.getElem?_cons_succ]; rfl) (fun K hK => ?_) AllReadyH.nil
            rw [if_pos (by rfl)]
            refine wp_store_row _ _ _ rfl g10 R1.toArray rfl rfl _ _ hr10 Hr1.out.1 Hr1.out.2.1 Hr1.out.2.2 ?_
            have hr8 := (setRow_other xx2 g10 g8 R1.toArray (Nat.ne_of_gt hl108)).trans hr8
            have hr9 := (setRow_other xx2 g10 g9 R1.toArray (Nat.ne_of_lt hl910)).trans hr9
            have hr11 := (setRow_other xx2 g10 g11 R1.toArray (Nat.ne_of_gt hl1011)).trans hr11
            have hr10 := setRow_heap xx2 g10 _ R1.toArray _ _ hr10
            refine hK.out _ _ (below_setRow hHeld hw10 _) (fun hNew => ?_)
            clear hK K hHeld
            have hHeld := hNew
            clear hNew
            (try simp only [Act.put])
            generalize hvv : xx2.setRow g10 R1.toArray = xx3 at hr8 hr9 hr10 hr11 hHeld ⊢
            clear hvv
            refine wpAnyH_ready (rs := [15]) (by decide +kernel) (by simp) ?_
            refine AllReadyH.cons (o := ?_) (by simp only [List.getElem?_toArray, List.getElem?_cons_zero, List.getElem?_cons_succ]; rfl) (fun K hK => ?_) AllReadyH.nil
            rw [if_pos (by rfl)]
            refine wp_store_row _ _ _ rfl g11 R2.toArray rfl rfl _ _ hr11 Hr2.out.1 Hr2.out.2.1 Hr2.out.2.2 ?_
            have hr8 := (setRow_other xx3 g11 g8 R2.toArray (Nat.ne_of_lt hl811)).trans hr8
            have hr9 := (setRow_other xx3 g11 g9 R2.toArray (Nat.ne_of_lt hl911)).trans hr9
            have hr10 := (setRow_other xx3 g11 g10 R2.toArray (Nat.ne_of_lt hl1011)).trans hr10
            have hr11 := setRow_heap xx3 g11 _ R2.toArray _ _ hr11
            refine hK.out _ _ (below_setRow hHeld hw11 _) (fun hNew => ?_)
            clear hK K hHeld
            have hHeld := hNew
            clear hNew
            (try simp only [Act.put])
            generalize hvv : xx3.setRow g11 R2.toArray = xx4 at hr8 hr9 hr10 hr11 hHeld ⊢
            clear hvv
            refine wpAnyH_done (by decide +kernel) ?_ _
            have HE : Hid (Cut1 F1 F2 R1 R2 w (.pointer (some ⟨g8, 0, none⟩)) (.pointer (some ⟨g9, 0, none⟩)) (.pointer (some ⟨g10, 0, none⟩)) (.pointer (some ⟨g11, 0, none⟩)) xx4) := ⟨g8, g9, g10, g11, rfl, rfl, rfl, rfl, hr8, hr9, hr10, hr11, HB2.out.trans (hHeld.mono HB2.out.size)⟩
            clear hr8 hr9 hr10 hr11 hHeld
            go_wp2_with fail
            go_meet
            exact HE
          exact AllReadyH.nil
        refine AllReadyH.cons (o := ?_) (by simp only [List.getElem?_toArray, List.getElem?_cons_zero, List.getElem?_cons_succ]; rfl) (fun K hK => ?_) ?_
        · go_simp
          have hl911 := row_lt hr9
          have hl1011 := row_lt hr10
          have hr11 := heap_alloc_new ww2 (.cells #[.int .i64 0, .int .u8 0, .int .u8 0, .int .u8 0, .int .u8 0, .int .u8 0, .int .u8 0, .int .u8 0, .int .u8 0, .int .u8 0, .int .u8 0, .int .u8 0, .int .u8 0, .int .u8 0, .int .u8 0, .int .u8 0, .int .u8 0, .int .u8 0, .int .u8 0, .int .u8 0, .int .u8 0] 44)
          have hw11 := hHeld.size
          have hr9 := old_alloc hr9 (.cells #[.int .i64 0, .int .u8 0, .int .u8 0, .int .u8 0, .int .u8 0, .int .u8 0, .int .u8 0, .int .u8 0, .int .u8 0, .int .u8 0, .int .u8 0, .int .u8 0, .int .u8 0, .int .u8 0, .int .u8 0, .int .u8 0, .int .u8 0, .int .u8 0, .int .u8 0, .int .u8 0, .int .u8 0] 44)
          have hr10 := old_alloc hr10 (.cells #[.int .i64 0, .int .u8 0, .int .u8 0, .int .u8 0, .int .u8 0, .int .u8 0, .int .u8 0, .int .u8 0, .int .u8 0, .int .u8 0, .int .u8 0, .int .u8 0, .int .u8 0, .int .u8 0, .int .u8 0, .int .u8 0, .int .u8 0, .int .u8 0, .int .u8 0, .int .u8 0, .int .u8 0] 44)
          refine hK.out _ _ (hHeld.alloc hHeld.size _) (fun hNew => ?_)
          clear hK K hHeld
          have hHeld := hNew
          clear hNew
          (try simp only [Act.put, List.setIfInBounds_toArray, List.set_cons_zero, List.set_cons_succ])
          generalize hgg : ww2.heap.size = g11 at hr11 hw11 hl911 hl1011 ⊢
          generalize hvv : ww2.alloc (.cells #[.int .i64 0, .int .u8 0, .int .u8 0, .int .u8 0, .int .u8 0, .int .u8 0, .int .u8 0, .int .u8 0, .int .u8 0, .int .u8 0, .int .u8 0, .int .u8 0, .int .u8 0, .int .u8 0, .int .u8 0, .int .u8 0, .int .u8 0, .int .u8 0, .int .u8 0, .int .u8 0, .int .u8 0] 44) = ww3 at hr9 hr10 hr11 hHeld ⊢
          clear hgg hvv
          refine wpAnyH_ready (rs := [8]) (by decide +kernel) (by simp) ?_
          refine AllReadyH.cons (o := ?_) (by simp only [List.getElem?_toArray, List.getElem?_cons_zero, List.getElem?_cons_succ]; rfl) (fun K hK => ?_) ?_
          · go_simp
            have hl98 := row_lt hr9
            have hl108 := row_lt hr10
            have hl118 := row_lt hr11
            have hr8 := heap_alloc_new ww3 (.cells #[.int .u8 0, .int .u8 0, .int .u8 0, .int .u8 0, .int .u8 0, .int .u8 0, .int .u8 0, .int .u8 0, .int .u8 0, .int .u8 0, .int .u8 0, .int .u8 0, .int .u16 0, .slice none 0 0] 27)
            have hw8 := hHeld.size
            have hr9 := old_alloc hr9 (.cells #[.int .u8 0, .int .u8 0, .int .u8 0, .int .u8 0, .int .u8 0, .int .u8 0, .int .u8 0, .int .u8 0, .int .u8 0, .int .u8 0, .int .u8 0, .int .u8 0, .int .u16 0, .slice none 0 0] 27)
            have hr10 := old_alloc hr10 (.cells #[.int .u8 0, .int .u8 0, .int .u8 0, .int .u8 0, .int .u8 0, .int .u8 0, .int .u8 0, .int .u8 0, .int .u8 0, .int .u8 0, .int .u8 0, .int .u8 0, .int .u16 0, .slice none 0 0] 27)
            have hr11 := old_alloc hr11 (.cells #[.int .u8 0, .int .u8 0, .int .u8 0, .int .u8 0, .int .u8 0, .int .u8 0, .int .u8 0, .int .u8 0, .int .u8 0, .int .u8 0, .int .u8 0, .int .u8 0, .int .u16 0, .slice none 0 0] 27)
            refine hK.out _ _ (hHeld.alloc hHeld.size _) (fun hNew => ?_)
            clear hK K hHeld
            have hHeld := hNew
            clear hNew
            (try simp only [Act.put, List.setIfInBounds_toArray, List.set_cons_zero, List.set_cons_succ])
            generalize hgg : ww3.heap.size = g8 at hr8 hw8 hl98 hl108 hl118 ⊢
            generalize hvv : ww3.alloc (.cells #[.int .u8 0, .int .u8 0, .int .u8 0, .int .u8 0, .int .u8 0, .int .u8 0, .int .u8 0, .int .u8 0, .int .u8 0, .int .u8 0, .int .u8 0, .int .u8 0, .int .u16 0, .slice none 0 0] 27) = ww4 at hr9 hr10 hr11 hr8 hHeld ⊢
            clear hgg hvv
            refine wpAnyH_ready (rs := [12]) (by decide +kernel) (by simp) ?_
            refine AllReadyH.cons (o := ?_) (by simp only [List.getElem?_toArray, List.getElem?_cons_zero, List.getElem?_cons_succ]; rfl) (fun K hK => ?_) AllReadyH.nil
            rw [if_pos (by rfl)]
            refine wp_store_row _ _ _ rfl g8 F1.toArray rfl rfl _ _ hr8 Hf1.out.1 Hf1.out.2.1 Hf1.out.2.2 ?_
            have hr9 := (setRow_other ww4 g8 g9 F1.toArray (Nat.ne_of_lt hl98)).trans hr9
            have hr10 := (setRow_other ww4 g8 g10 F1.toArray (Nat.ne_of_lt hl108)).trans hr10
            have hr11 := (setRow_other ww4 g8 g11 F1.toArray (Nat.ne_of_lt hl118)).trans hr11
            have hr8 := setRow_heap ww4 g8 _ F1.toArray _ _ hr8
            refine hK.out _ _ (below_setRow hHeld hw8 _) (fun hNew => ?_)
            clear hK K hHeld
            have hHeld := hNew
            clear hNew
            (try simp only [Act.put])
            generalize hvv : ww4.setRow g8 F1.toArray = xx1 at hr8 hr9 hr10 hr11 hHeld ⊢
            clear hvv
            refine wpAnyH_ready (rs := [13]) (by decide +kernel) (by simp) ?_
            refine AllReadyH.cons (o := ?_) (by simp only [List.getElem?_toArray, List.getElem?_cons_zero, List.getElem?_cons_succ]; rfl) (fun K hK => ?_) AllReadyH.nil
            rw [if_pos (by rfl)]
            refine wp_store_row _ _ _ rfl g9 F2.toArray rfl rfl _ _ hr9 Hf2.out.1 Hf2.out.2.1 Hf2.out.2.2 ?_
            have hr8 := (setRow_other xx1 g9 g8 F2.toArray (Nat.ne_of_gt hl98)).trans hr8
            have hr10 := (setRow_other xx1 g9 g10 F2.toArray (Nat.ne_of_gt hl910)).trans hr10
            have hr11 := (setRow_other xx1 g9 g11 F2.toArray (Nat.ne_of_gt hl911)).trans hr11
            have hr9 := setRow_heap xx1 g9 _ F2.toArray _ _ hr9
            refine hK.out _ _ (below_setRow hHeld hw9 _) (fun hNew => ?_)
            clear hK K hHeld
            have hHeld := hNew
            clear hNew
            (try simp only [Act.put])
            generalize hvv : xx1.setRow g9 F2.toArray = xx2 at hr8 hr9 hr10 hr11 hHeld ⊢
            clear hvv
            refine wpAnyH_ready (rs := [14]) (by decide +kernel) (by simp) ?_
            refine AllReadyH.cons (o := ?_) (by simp only [List.getElem?_toArray, List.getElem?_cons_zero, List.getElem?_cons_succ]; rfl) (fun K hK => ?_) AllReadyH.nil
            rw [if_pos (by rfl)]
            refine wp_store_row _ _ _ rfl g10 R1.toArray rfl rfl _ _ hr10 Hr1.out.1 Hr1.out.2.1 Hr1.out.2.2 ?_
            have hr8 := (setRow_other xx2 g10 g8 R1.toArray (Nat.ne_of_gt hl108)).trans hr8
            have hr9 := (setRow_other xx2 g10 g9 R1.toArray (Nat.ne_of_lt hl910)).trans hr9
            have hr11 := (setRow_other xx2 g10 g11 R1.toArray (Nat.ne_of_gt hl1011)).trans hr11
            have hr10 := setRow_heap xx2 g10 _ R1.toArray _ _ hr10
            refine hK.out _ _ (below_setRow hHeld hw10 _) (fun hNew => ?_)
            clear hK K hHeld
            have hHeld := hNew
            clear hNew
            (try simp only [Act.put])
            generalize hvv : xx2.setRow g10 R1.toArray = xx3 at hr8 hr9 hr10 hr11 hHeld ⊢
            clear hvv
            refine wpAnyH_ready (rs := [15]) (by decide +kernel) (by simp) ?_
            refine AllReadyH.cons (o := ?_) (by simp only [List.getElem?_toArray, List.getElem?_cons_zero, List.getElem?_cons_succ]; rfl) (fun K hK => ?_) AllReadyH.nil
            rw [if_pos (by rfl)]
            refine wp_store_row _ _ _ rfl g11 R2.toArray rfl rfl _ _ hr11 Hr2.out.1 Hr2.out.2.1 Hr2.out.2.2 ?_
            have hr8 := (setRow_other xx3 g11 g8 R2.toArray (Nat.ne_of_gt hl118)).trans hr8
            have hr9 := (setRow_other xx3 g11 g9 R2.toArray (Nat.ne_of_lt hl911)).trans hr9
            have hr10 := (setRow_other xx3 g11 g10 R2.toArray (Nat.ne_of_lt hl1011)).trans hr10
            have hr11 := setRow_heap xx3 g11 _ R2.toArray _ _ hr11
            refine hK.out _ _ (below_setRow hHeld hw11 _) (fun hNew => ?_)
            clear hK K hHeld
            have hHeld := hNew
            clear hNew
            (try simp only [Act.put])
            generalize hvv : xx3.setRow g11 R2.toArray = xx4 at hr8 hr9 hr10 hr11 hHeld ⊢
            clear hvv
            refine wpAnyH_done (by decide +kernel) ?_ _
            have HE : Hid (Cut1 F1 F2 R1 R2 w (.pointer (some ⟨g8, 0, none⟩)) (.pointer (some ⟨g9, 0, none⟩)) (.pointer (some ⟨g10, 0, none⟩)) (.pointer (some ⟨g11, 0, none⟩)) xx4) := ⟨g8, g9, g10, g11, rfl, rfl, rfl, rfl, hr8, hr9, hr10, hr11, HB2.out.trans (hHeld.mono HB2.out.size)⟩
            clear hr8 hr9 hr10 hr11 hHeld
            go_wp2_with fail
            go_meet
            exact HE
          exact AllReadyH.nil
        exact AllReadyH.nil
      refine AllReadyH.cons (o := ?_) (by simp only [List.getElem?_toArray, List.getElem?_cons_zero, List.getElem?_cons_succ]; rfl) (fun K hK => ?_) ?_
      · go_simp
        have hl911 := row_lt hr9
        have hr11 := heap_alloc_new ww1 (.cells #[.int .i64 0, .int .u8 0, .int .u8 0, .int .u8 0, .int .u8 0, .int .u8 0, .int .u8 0, .int .u8 0, .int .u8 0, .int .u8 0, .int .u8 0, .int .u8 0, .int .u8 0, .int .u8 0, .int .u8 0, .int .u8 0, .int .u8 0, .int .u8 0, .int .u8 0, .int .u8 0, .int .u8 0] 44)
        have hw11 := hHeld.size
        have hr9 := old_alloc hr9 (.cells #[.int .i64 0, .int .u8 0, .int .u8 0, .int .u8 0, .int .u8 0, .int .u8 0, .int .u8 0, .int .u8 0, .int .u8 0, .int .u8 0, .int .u8 0, .int .u8 0, .int .u8 0, .int .u8 0, .int .u8 0, .int .u8 0, .int .u8 0, .int .u8 0, .int .u8 0, .int .u8 0, .int .u8 0] 44)
        refine hK.out _ _ (hHeld.alloc hHeld.size _) (fun hNew => ?_)
        clear hK K hHeld
        have hHeld := hNew
        clear hNew
        (try simp only [Act.put, List.setIfInBounds_toArray, List.set_cons_zero, List.set_cons_succ])
        generalize hgg : ww1.heap.size = g11 at hr11 hw11 hl911 ⊢
        generalize hvv : ww1.alloc (.cells #[.int .i64 0, .int .u8 0, .int .u8 0, .int .u8 0, .int .u8 0, .int .u8 0, .int .u8 0, .int .u8 0, .int .u8 0, .int .u8 0, .int .u8 0, .int .u8 0, .int .u8 0, .int .u8 0, .int .u8 0, .int .u8 0, .int .u8 0, .int .u8 0, .int .u8 0, .int .u8 0, .int .u8 0] 44) = ww2 at hr9 hr11 hHeld ⊢
        clear hgg hvv
        refine wpAnyH_ready (rs := [8, 10]) (by decide +kernel) (by simp) ?_
        refine AllReadyH.cons (o := ?_) (by simp only [List.getElem?_toArray, List.getElem?_cons_zero, List.getElem?_cons_succ]; rfl) (fun K hK => ?_) ?_
        · go_simp
          have hl98 := row_lt hr9
          have hl118 := row_lt hr11
          have hr8 := heap_alloc_new ww2 (.cells #[.int .u8 0, .int .u8 0, .int .u8 0, .int .u8 0, .int .u8 0, .int .u8 0, .int .u8 0, .int .u8 0, .int .u8 0, .int .u8 0, .int .u8 0, .int .u8 0, .int .u16 0, .slice none 0 0] 27)
          have hw8 := hHeld.size
          have hr9 := old_alloc hr9 (.cells #[.int .u8 0, .int .u8 0, .int .u8 0, .int .u8 0, .int .u8 0, .int .u8 0, .int .u8 0, .int .u8 0, .int .u8 0, .int .u8 0, .int .u8 0, .int .u8 0, .int .u16 0, .slice none 0 0] 27)
          have hr11 := old_alloc hr11 (.cells #[.int .u8 0, .int .u8 0, .int .u8 0, .int .u8 0, .int .u8 0, .int .u8 0, .int .u8 0, .int .u8 0, .int .u8 0, .int .u8 0, .int .u8 0, .int .u8 0, .int .u16 0, .slice none 0 0] 27)
          refine hK.out _ _ (hHeld.alloc hHeld.size _) (fun hNew => ?_)
          clear hK K hHeld
          have hHeld := hNew
          clear hNew
          (try simp only [Act.put, List.setIfInBounds_toArray, List.set_cons_zero, List.set_cons_succ])
          generalize hgg : ww2.heap.size = g8 at hr8 hw8 hl98 hl118 ⊢
          generalize hvv : ww2.alloc (.cells #[.int .u8 0, .int .u8 0, .int .u8 0, .int .u8 0, .int .u8 0, .int .u8 0, .int .u8 0, .int .u8 0, .int .u8 0, .int .u8 0, .int .u8 0, .int .u8 0, .int .u16 0, .slice none 0 0] 27) = ww3 at hr9 hr11 hr8 hHeld ⊢
          clear hgg hvv
          refine wpAnyH_ready (rs := [10]) (by decide +kernel) (by simp) ?_
          refine AllReadyH.cons (o := ?_) (by simp only [List.getElem?_toArray, List.getElem?_cons_zero, List.getElem?_cons_succ]; rfl) (fun K hK => ?_) ?_
          · go_simp
            have hl910 := row_lt hr9
            have hl1110 := row_lt hr11
            have hl810 := row_lt hr8
            have hr10 := heap_alloc_new ww3 (.cells #[.int .i64 0, .int .u8 0, .int .u8 0, .int .u8 0, .int .u8 0, .int .u8 0, .int .u8 0, .int .u8 0, .int .u8 0, .int .u8 0, .int .u8 0, .int .u8 0, .int .u8 0, .int .u8 0, .int .u8 0, .int .u8 0, .int .u8 0, .int .u8 0, .int .u8 0, .int .u8 0, .int .u8 0] 44)
            have hw10 := hHeld.size
            have hr9 := old_alloc hr9 (.cells #[.int .i64 0, .int .u8 0, .int .u8 0, .int .u8 0, .int .u8 0, .int .u8 0, .int .u8 0, .int .u8 0, .int .u8 0, .int .u8 0, .int .u8 0, .int .u8 0, .int .u8 0, .int .u8 0, .int .u8 0, .int .u8 0, .int .u8 0, .int .u8 0, .int .u8 0, .int .u8 0, .int .u8 0] 44)
            have hr11 := old_alloc hr11 (.cells #[.int .i64 0, .int .u8 0, .int .u8 0, .int .u8 0, .int .u8 0, .int .u8 0, .int .u8 0, .int .u8 0, .int .u8 0, .int .u8 0, .int .u8 0, .int .u8 0, .int .u8 0, .int .u8 0, .int .u8 0, .int .u8 0, .int .u8 0, .int .u8 0, .int .u8 0, .int .u8 0, .int .u8 0] 44)
            have hr8 := old_alloc hr8 (.cells #[.int .i64 0, .int .u8 0, .int .u8 0, .int .u8 0, .int .u8 0, .int .u8 0, .int .u8 0, .int .u8 0, .int .u8 0, .int .u8 0, .int .u8 0, .int .u8 0, .int .u8 0, .int .u8 0, .int .u8 0, .int .u8 0, .int .u8 0, .int .u8 0, .int .u8 0, .int .u8 0, .int .u8 0] 44)
            refine hK.out _ _ (hHeld.alloc hHeld.size _) (fun hNew => ?_)
            clear hK K hHeld
            have hHeld := hNew
            clear hNew
            (try simp only [Act.put, List.setIfInBounds_toArray, List.set_cons_zero, List.set_cons_succ])
            generalize hgg : ww3.heap.size = g10 at hr10 hw10 hl910 hl1110 hl810 ⊢
            generalize hvv : ww3.alloc (.cells #[.int .i64 0, .int .u8 0, .int .u8 0, .int .u8 0, .int .u8 0, .int .u8 0, .int .u8 0, .int .u8 0, .int .u8 0, .int .u8 0, .int .u8 0, .int .u8 0, .int .u8 0, .int .u8 0, .int .u8 0, .int .u8 0, .int .u8 0, .int .u8 0, .int .u8 0, .int .u8 0, .int .u8 0] 44) = ww4 at hr9 hr11 hr8 hr10 hHeld ⊢
            clear hgg hvv
            refine wpAnyH_ready (rs := [12]) (by decide +kernel) (by simp) ?_
            refine AllReadyH.cons (o := ?_) (by simp only [List.getElem?_toArray, List.getElem?_cons_zero, List.getElem?_cons_succ]; rfl) (fun K hK => ?_) AllReadyH.nil
            rw [if_pos (by rfl)]
            refine wp_store_row _ _ _ rfl g8 F1.toArray rfl rfl _ _ hr8 Hf1.out.1 Hf1.out.2.1 Hf1.out.2.2 ?_
            have hr9 := (setRow_other ww4 g8 g9 F1.toArray (Nat.ne_of_lt hl98)).trans hr9
            have hr10 := (setRow_other ww4 g8 g10 F1.toArray (Nat.ne_of_gt hl810)).trans hr10
            have hr11 := (setRow_other ww4 g8 g11 F1.toArray (Nat.ne_of_lt hl118)).trans hr11
            have hr8 := setRow_heap ww4 g8 _ F1.toArray _ _ hr8
            refine hK.out _ _ (below_setRow hHeld hw8 _) (fun hNew => ?_)
            clear hK K hHeld
            have hHeld := hNew
            clear hNew
            (try simp only [Act.put])
            generalize hvv : ww4.setRow g8 F1.toArray = xx1 at hr8 hr9 hr10 hr11 hHeld ⊢
            clear hvv
            refine wpAnyH_ready (rs := [13]) (by decide +kernel) (by simp) ?_
            refine AllReadyH.cons (o := ?_) (by simp only [List.getElem?_toArray, List.getElem?_cons_zero, List.getElem?_cons_succ]; rfl) (fun K hK => ?_) AllReadyH.nil
            rw [if_pos (by rfl)]
            refine wp_store_row _ _ _ rfl g9 F2.toArray rfl rfl _ _ hr9 Hf2.out.1 Hf2.out.2.1 Hf2.out.2.2 ?_
            have hr8 := (setRow_other xx1 g9 g8 F2.toArray (Nat.ne_of_gt hl98)).trans hr8
            have hr10 := (setRow_other xx1 g9 g10 F2.toArray (Nat.ne_of_gt hl910)).trans hr10
            have hr11 := (setRow_other xx1 g9 g11 F2.toArray (Nat.ne_of_gt hl911)).trans hr11
            have hr9 := setRow_heap xx1 g9 _ F2.toArray _ _ hr9
            refine hK.out _ _ (below_setRow hHeld hw9 _) (fun hNew => ?_)
            clear hK K hHeld
            have hHeld := hNew
            clear hNew
            (try simp only [Act.put])
            generalize hvv : xx1.setRow g9 F2.toArray = xx2 at hr8 hr9 hr10 hr11 hHeld ⊢
            clear hvv
            refine wpAnyH_ready (rs := [14]) (by decide +kernel) (by simp) ?_
            refine AllReadyH.cons (o := ?_) (by simp only [List.getElem?_toArray, List.getElem?_cons_zero, List.getElem?_cons_succ]; rfl) (fun K hK => ?_) AllReadyH.nil
            rw [if_pos (by rfl)]
            refine wp_store_row _ _ _ rfl g10 R1.toArray rfl rfl _ _ hr10 Hr1.out.1 Hr1.out.2.1 Hr1.out.2.2 ?_
            have hr8 := (setRow_other xx2 g10 g8 R1.toArray (Nat.ne_of_lt hl810)).trans hr8
            have hr9 := (setRow_other xx2 g10 g9 R1.toArray (Nat.ne_of_lt hl910)).trans hr9
            have hr11 := (setRow_other xx2 g10 g11 R1.toArray (Nat.ne_of_lt hl1110)).trans hr11
            have hr10 := setRow_heap xx2 g10 _ R1.toArray _ _ hr10
            refine hK.out _ _ (below_setRow hHeld hw10 _) (fun hNew => ?_)
            clear hK K hHeld
            have hHeld := hNew
            clear hNew
            (try simp only [Act.put])
            generalize hvv : xx2.setRow g10 R1.toArray = xx3 at hr8 hr9 hr10 hr11 hHeld ⊢
            clear hvv
            refine wpAnyH_ready (rs := [15]) (by decide +kernel) (by simp) ?_
            refine AllReadyH.cons (o := ?_) (by simp only [List.getElem?_toArray, List.getElem?_cons_zero, List.getElem?_cons_succ]; rfl) (fun K hK => ?_) AllReadyH.nil
            rw [if_pos (by rfl)]
            refine wp_store_row _ _ _ rfl g11 R2.toArray rfl rfl _ _ hr11 Hr2.out.1 Hr2.out.2.1 Hr2.out.2.2 ?_
            have hr8 := (setRow_other xx3 g11 g8 R2.toArray (Nat.ne_of_gt hl118)).trans hr8
            have hr9 := (setRow_other xx3 g11 g9 R2.toArray (Nat.ne_of_lt hl911)).trans hr9
            have hr10 := (setRow_other xx3 g11 g10 R2.toArray (Nat.ne_of_gt hl1110)).trans hr10
            have hr11 := setRow_heap xx3 g11 _ R2.toArray _ _ hr11
            refine hK.out _ _ (below_setRow hHeld hw11 _) (fun hNew => ?_)
            clear hK K hHeld
            have hHeld := hNew
            clear hNew
            (try simp only [Act.put])
            generalize hvv : xx3.setRow g11 R2.toArray = xx4 at hr8 hr9 hr10 hr11 hHeld ⊢
            clear hvv
            refine wpAnyH_done (by decide +kernel) ?_ _
            have HE : Hid (Cut1 F1 F2 R1 R2 w (.pointer (some ⟨g8, 0, none⟩)) (.pointer (some ⟨g9, 0, none⟩)) (.pointer (some ⟨g10, 0, none⟩)) (.pointer (some ⟨g11, 0, none⟩)) xx4) := ⟨g8, g9, g10, g11, rfl, rfl, rfl, rfl, hr8, hr9, hr10, hr11, HB2.out.trans (hHeld.mono HB2.out.size)⟩
            clear hr8 hr9 hr10 hr11 hHeld
            go_wp2_with fail
            go_meet
            exact HE
          exact AllReadyH.nil
        refine AllReadyH.cons (o := ?_) (by simp only [List.getElem?_toArray, List.getElem?_cons_zero, List.getElem?_cons_succ]; rfl) (fun K hK => ?_) ?_
        · go_simp
          have hl910 := row_lt hr9
          have hl1110 := row_lt hr11
          have hr10 := heap_alloc_new ww2 (.cells #[.int .i64 0, .int .u8 0, .int .u8 0, .int .u8 0, .int .u8 0, .int .u8 0, .int .u8 0, .int .u8 0, .int .u8 0, .int .u8 0, .int .u8 0, .int .u8 0, .int .u8 0, .int .u8 0, .int .u8 0, .int .u8 0, .int .u8 0, .int .u8 0, .int .u8 0, .int .u8 0, .int .u8 0] 44)
          have hw10 := hHeld.size
          have hr9 := old_alloc hr9 (.cells #[.int .i64 0, .int .u8 0, .int .u8 0, .int .u8 0, .int .u8 0, .int .u8 0, .int .u8 0, .int .u8 0, .int .u8 0, .int .u8 0, .int .u8 0, .int .u8 0, .int .u8 0, .int .u8 0, .int .u8 0, .int .u8 0, .int .u8 0, .int .u8 0, .int .u8 0, .int .u8 0, .int .u8 0] 44)
          have hr11 := old_alloc hr11 (.cells #[.int .i64 0, .int .u8 0, .int .u8 0, .int .u8 0, .int .u8 0, .int .u8 0, .int .u8 0, .int .u8 0, .int .u8 0, .int .u8 0, .int .u8 0, .int .u8 0, .int .u8 0, .int .u8 0, .int .u8 0, .int .u8 0, .int .u8 0, .int .u8 0, .int .u8 0, .int .u8 0, .int .u8 0] 44)
          refine hK.out _ _ (hHeld.alloc hHeld.size _) (fun hNew => ?_)
          clear hK K hHeld
          have hHeld := hNew
          clear hNew
          (try simp only [Act.put, List.setIfInBounds_toArray, List.set_cons_zero, List.set_cons_succ])
          generalize hgg : ww2.heap.size = g10 at hr10 hw10 hl910 hl1110 ⊢
          generalize hvv : ww2.alloc (.cells #[.int .i64 0, .int .u8 0, .int .u8 0, .int .u8 0, .int .u8 0, .int .u8 0, .int .u8 0, .int .u8 0, .int .u8 0, .int .u8 0, .int .u8 0, .int .u8 0, .int .u8 0, .int .u8 0, .int .u8 0, .int .u8 0, .int .u8 0, .int .u8 0, .int .u8 0, .int .u8 0, .int .u8 0] 44) = ww3 at hr9 hr11 hr10 hHeld ⊢
          clear hgg hvv
          refine wpAnyH_ready (rs := [8]) (by decide +kernel) (by simp) ?_
          refine AllReadyH.cons (o := ?_) (by simp only [List.getElem?_toArray, List.getElem?_cons_zero, List.getElem?_cons_succ]; rfl) (fun K hK => ?_) ?_
          · go_simp
            have hl98 := row_lt hr9
            have hl118 := row_lt hr11
            have hl108 := row_lt hr10
            have hr8 := heap_alloc_new ww3 (.cells #[.int .u8 0, .int .u8 0, .int .u8 0, .int .u8 0, .int .u8 0, .int .u8 0, .int .u8 0, .int .u8 0, .int .u8 0, .int .u8 0, .int .u8 0, .int .u8 0, .int .u16 0, .slice none 0 0] 27)
            have hw8 := hHeld.size
            have hr9 := old_alloc hr9 (.cells #[.int .u8 0, .int .u8 0, .int .u8 0, .int .u8 0, .int .u8 0, .int .u8 0, .int .u8 0, .int .u8 0, .int .u8 0, .int .u8 0, .int .u8 0, .int .u8 0, .int .u16 0, .slice none 0 0] 27)
            have hr11 := old_alloc hr11 (.cells #[.int .u8 0, .int .u8 0, .int .u8 0, .int .u8 0, .int .u8 0, .int .u8 0, .int .u8 0, .int .u8 0, .int .u8 0, .int .u8 0, .int .u8 0, .int .u8 0, .int .u16 0, .slice none 0 0] 27)
            have hr10 := old_alloc hr10 (.cells #[.int .u8 0, .int .u8 0, .int .u8 0, .int .u8 0, .int .u8 0, .int .u8 0, .int .u8 0, .int .u8 0, .int .u8 0, .int .u8 0, .int .u8 0, .int .u8 0, .int .u16 0, .slice none 0 0] 27)
            refine hK.out _ _ (hHeld.alloc hHeld.size _) (fun hNew => ?_)
            clear hK K hHeld
            have hHeld := hNew
            clear hNew
            (try simp only [Act.put, List.setIfInBounds_toArray, List.set_cons_zero, List.set_cons_succ])
            generalize hgg : ww3.heap.size = g8 at hr8 hw8 hl98 hl118 hl108 ⊢
            generalize hvv : ww3.alloc (.cells #[.int .u8 0, .int .u8 0, .int .u8 0, .int .u8 0, .int .u8 0, .int .u8 0, .int .u8 0, .int .u8 0, .int .u8 0, .int .u8 0, .int .u8 0, .int .u8 0, .int .u16 0, .slice none 0 0] 27) = ww4 at hr9 hr11 hr10 hr8 hHeld ⊢
            clear hgg hvv
            refine wpAnyH_ready (rs := [12]) (by decide +kernel) (by simp) ?_
            refine AllReadyH.cons (o := ?_) (by simp only [List.getElem?_toArray, List.getElem?_cons_zero, List.getElem?_cons_succ]; rfl) (fun K hK => ?_) AllReadyH.nil
            rw [if_pos (by rfl)]
            refine wp_store_row _ _ _ rfl g8 F1.toArray rfl rfl _ _ hr8 Hf1.out.1 Hf1.out.2.1 Hf1.out.2.2 ?_
            have hr9 := (setRow_other ww4 g8 g9 F1.toArray (Nat.ne_of_lt hl98)).trans hr9
            have hr10 := (setRow_other ww4 g8 g10 F1.toArray (Nat.ne_of_lt hl108)).trans hr10
            have hr11 := (setRow_other ww4 g8 g11 F1.toArray (Nat.ne_of_lt hl118)).trans hr11
            have hr8 := setRow_heap ww4 g8 _ F1.toArray _ _ hr8
            refine hK.out _ _ (below_setRow hHeld hw8 _) (fun hNew => ?_)
            clear hK K hHeld
            have hHeld := hNew
            clear hNew
            (try simp only [Act.put])
            generalize hvv : ww4.setRow g8 F1.toArray = xx1 at hr8 hr9 hr10 hr11 hHeld ⊢
            clear hvv
            refine wpAnyH_ready (rs := [13]) (by decide +kernel) (by simp) ?_
            refine AllReadyH.cons (o := ?_) (by simp only [List.getElem?_toArray, List.getElem?_cons_zero, List.getElem?_cons_succ]; rfl) (fun K hK => ?_) AllReadyH.nil
            rw [if_pos (by rfl)]
            refine wp_store_row _ _ _ rfl g9 F2.toArray rfl rfl _ _ hr9 Hf2.out.1 Hf2.out.2.1 Hf2.out.2.2 ?_
            have hr8 := (setRow_other xx1 g9 g8 F2.toArray (Nat.ne_of_gt hl98)).trans hr8
            have hr10 := (setRow_other xx1 g9 g10 F2.toArray (Nat.ne_of_gt hl910)).trans hr10
            have hr11 := (setRow_other xx1 g9 g11 F2.toArray (Nat.ne_of_gt hl911)).trans hr11
            have hr9 := setRow_heap xx1 g9 _ F2.toArray _ _ hr9
            refine hK.out _ _ (below_setRow hHeld hw9 _) (fun hNew => ?_)
            clear hK K hHeld
            have hHeld := hNew
            clear hNew
            (try simp only [Act.put])
            generalize hvv : xx1.setRow g9 F2.toArray = xx2 at hr8 hr9 hr10 hr11 hHeld ⊢
            clear hvv
            refine wpAnyH_ready (rs := [14]) (by decide +kernel) (by simp) ?_
            refine AllReadyH.cons (o := ?_) (by simp only [List.getElem?_toArray, List.getElem?_cons_zero, List.getElem?_cons_succ]; rfl) (fun K hK => ?_) AllReadyH.nil
            rw [if_pos (by rfl)]
            refine wp_store_row _ _ _ rfl g10 R1.toArray rfl rfl _ _ hr10 Hr1.out.1 Hr1.out.2.1 Hr1.out.2.2 ?_
            have hr8 := (setRow_other xx2 g10 g8 R1.toArray (Nat.ne_of_gt hl108)).trans hr8
            have hr9 := (setRow_other xx2 g10 g9 R1.toArray (Nat.ne_of_lt hl910)).trans hr9
            have hr11 := (setRow_other xx2 g10 g11 R1.toArray (Nat.ne_of_lt hl1110)).trans hr11
            have hr10 := setRow_heap xx2 g10 _ R1.toArray _ _ hr10
            refine hK.out _ _ (below_setRow hHeld hw10 _) (fun hNew => ?_)
            clear hK K hHeld
            have hHeld := hNew
            clear hNew
            (try simp only [Act.put])
            generalize hvv : xx2.setRow g10 R1.toArray = xx3 at hr8 hr9 hr10 hr11 hHeld ⊢
            clear hvv
            refine wpAnyH_ready (rs := [15]) (by decide +kernel) (by simp) ?_
            refine AllReadyH.cons (o := ?_) (by simp only [List.getElem?_toArray, List.getElem?_cons_zero, List.getElem?_cons_succ]; rfl) (fun K hK => ?_) AllReadyH.nil
            rw [if_pos (by rfl)]
            refine wp_store_row _ _ _ rfl g11 R2.toArray rfl rfl _ _ hr11 Hr2.out.1 Hr2.out.2.1 Hr2.out.2.2 ?_
            have hr8 := (setRow_other xx3 g11 g8 R2.toArray (Nat.ne_of_gt hl118)).trans hr8
            have hr9 := (setRow_other xx3 g11 g9 R2.toArray (Nat.ne_of_lt hl911)).trans hr9
            have hr10 := (setRow_other xx3 g11 g10 R2.toArray (Nat.ne_of_gt hl1110)).trans hr10
            have hr11 := setRow_heap xx3 g11 _ R2.toArray _ _ hr11
            refine hK.out _ _ (below_setRow hHeld hw11 _) (fun hNew => ?_)
            clear hK K hHeld
            have hHeld := hNew
            clear hNew
            (try simp only [Act.put])
            generalize hvv : xx3.setRow g11 R2.toArray = xx4 at hr8 hr9 hr10 hr11 hHeld ⊢
            clear hvv
            refine wpAnyH_done (by decide +kernel) ?_ _
            have HE : Hid (Cut1 F1 F2 R1 R2 w (.pointer (some ⟨g8, 0, none⟩)) (.pointer (some ⟨g9, 0, none⟩)) (.pointer (some ⟨g10, 0, none⟩)) (.pointer (some ⟨g11, 0, none⟩)) xx4) := ⟨g8, g9, g10, g11, rfl, rfl, rfl, rfl, hr8, hr9, hr10, hr11, HB2.out.trans (hHeld.mono HB2.out.size)⟩
            clear hr8 hr9 hr10 hr11 hHeld
            go_wp2_with fail
            go_meet
            exact HE
          exact AllReadyH.nil
        exact AllReadyH.nil
      exact AllReadyH.nil
    refine AllReadyH.cons (o := ?_) (by simp only [List.getElem?_toArray, List.getElem?_cons_zero, List.getElem?_cons_succ]; rfl) (fun K hK => ?_) ?_
    · go_simp
      have hr10 := heap_alloc_new wd (.cells #[.int .i64 0, .int .u8 0, .int .u8 0, .int .u8 0, .int .u8 0, .int .u8 0, .int .u8 0, .int .u8 0, .int .u8 0, .int .u8 0, .int .u8 0, .int .u8 0, .int .u8 0, .int .u8 0, .int .u8 0, .int .u8 0, .int .u8 0, .int .u8 0, .int .u8 0, .int .u8 0, .int .u8 0] 44)
      have hw10 := hHeld.size
      refine hK.out _ _ (hHeld.alloc hHeld.size _) (fun hNew => ?_)
      clear hK K hHeld
      have hHeld := hNew
      clear hNew
      (try simp only [Act.put, List.setIfInBounds_toArray, List.set_cons_zero, List.set_cons_succ])
      generalize hgg : wd.heap.size = g10 at hr10 hw10  ⊢
      generalize hvv : wd.alloc (.cells #[.int .i64 0, .int .u8 0, .int .u8 0, .int .u8 0, .int .u8 0, .int .u8 0, .int .u8 0, .int .u8 0, .int .u8 0, .int .u8 0, .int .u8 0, .int .u8 0, .int .u8 0, .int .u8 0, .int .u8 0, .int .u8 0, .int .u8 0, .int .u8 0, .int .u8 0, .int .u8 0, .int .u8 0] 44) = ww1 at hr10 hHeld ⊢
      clear hgg hvv
      refine wpAnyH_ready (rs := [8, 9, 11]) (by decide +kernel) (by simp) ?_
      refine AllReadyH.cons (o := ?_) (by simp only [List.getElem?_toArray, List.getElem?_cons_zero, List.getElem?_cons_succ]; rfl) (fun K hK => ?_) ?_
      · go_simp
        have hl108 := row_lt hr10
        have hr8 := heap_alloc_new ww1 (.cells #[.int .u8 0, .int .u8 0, .int .u8 0, .int .u8 0, .int .u8 0, .int .u8 0, .int .u8 0, .int .u8 0, .int .u8 0, .int .u8 0, .int .u8 0, .int .u8 0, .int .u16 0, .slice none 0 0] 27)
        have hw8 := hHeld.size
        have hr10 := old_alloc hr10 (.cells #[.int .u8 0, .int .u8 0, .int .u8 0, .int .u8 0, .int .u8 0, .int .u8 0, .int .u8 0, .int .u8 0, .int .u8 0, .int .u8 0, .int .u8 0, .int .u8 0, .int .u16 0, .slice none 0 0] 27)
        refine hK.out _ _ (hHeld.alloc hHeld.size _) (fun hNew => ?_)
        clear hK K hHeld
        have hHeld := hNew
        clear hNew
        (try simp only [Act.put, List.setIfInBounds_toArray, List.set_cons_zero, List.set_cons_succ])
        generalize hgg : ww1.heap.size = g8 at hr8 hw8 hl108 ⊢
        generalize hvv : ww1.alloc (.cells #[.int .u8 0, .int .u8 0, .int .u8 0, .int .u8 0, .int .u8 0, .int .u8 0, .int .u8 0, .int .u8 0, .int .u8 0, .int .u8 0, .int .u8 0, .int .u8 0, .int .u16 0, .slice none 0 0] 27) = ww2 at hr10 hr8 hHeld ⊢
        clear hgg hvv
        refine wpAnyH_ready (rs := [9, 11]) (by decide +kernel) (by simp) ?_
        refine AllReadyH.cons (o := ?_) (by simp only [List.getElem?_toArray, List.getElem?_cons_zero, List.getElem?_cons_succ]; rfl) (fun K hK => ?_) ?_
        · go_simp
          have hl109 := row_lt hr10
          have hl89 := row_lt hr8
          have hr9 := heap_alloc_new ww2 (.cells #[.int .u8 0, .int .u8 0, .int .u8 0, .int .u8 0, .int .u8 0, .int .u8 0, .int .u8 0, .int .u8 0, .int .u8 0, .int .u8 0, .int .u8 0, .int .u8 0, .int .u16 0, .slice none 0 0] 27)
          have hw9 := hHeld.size
          have hr10 := old_alloc hr10 (.cells #[.int .u8 0, .int .u8 0, .int .u8 0, .int .u8 0, .int .u8 0, .int .u8 0, .int .u8 0, .int .u8 0, .int .u8 0, .int .u8 0, .int .u8 0, .int .u8 0, .int .u16 0, .slice none 0 0] 27)
          have hr8 := old_alloc hr8 (.cells #[.int .u8 0, .int .u8 0, .int .u8 0, .int .u8 0, .int .u8 0, .int .u8 0, .int .u8 0, .int .u8 0, .int .u8 0, .int .u8 0, .int .u8 0, .int .u8 0, .int .u16 0, .slice none 0 0] 27)
          refine hK.out _ _ (hHeld.alloc hHeld.size _) (fun hNew => ?_)
          clear hK K hHeld
          have hHeld := hNew
          clear hNew
          (try simp only [Act.put, List.setIfInBounds_toArray, List.set_cons_zero, List.set_cons_succ])
          generalize hgg : ww2.heap.size = g9 at hr9 hw9 hl109 hl89 ⊢
          generalize hvv : ww2.alloc (.cells #[.int .u8 0, .int .u8 0, .int .u8 0, .int .u8 0, .int .u8 0, .int .u8 0, .int .u8 0, .int .u8 0, .int .u8 0, .int .u8 0, .int .u8 0, .int .u8 0, .int .u16 0, .slice none 0 0] 27) = ww3 at hr10 hr8 hr9 hHeld ⊢
          clear hgg hvv
          refine wpAnyH_ready (rs := [11]) (by decide +kernel) (by simp) ?_
          refine AllReadyH.cons (o := ?_) (by simp only [List.getElem?_toArray, List.getElem?_cons_zero, List.getElem?_cons_succ]; rfl) (fun K hK => ?_) ?_
          · go_simp
            have hl1011 := row_lt hr10
            have hl811 := row_lt hr8
            have hl911 := row_lt hr9
            have hr11 := heap_alloc_new ww3 (.cells #[.int .i64 0, .int .u8 0, .int .u8 0, .int .u8 0, .int .u8 0, .int .u8 0, .int .u8 0, .int .u8 0, .int .u8 0, .int .u8 0, .int .u8 0, .int .u8 0, .int .u8 0, .int .u8 0, .int .u8 0, .int .u8 0, .int .u8 0, .int .u8 0, .int .u8 0, .int .u8 0, .int .u8 0] 44)
            have hw11 := hHeld.size
            have hr10 := old_alloc hr10 (.cells #[.int .i64 0, .int .u8 0, .int .u8 0, .int .u8 0, .int .u8 0, .int .u8 0, .int .u8 0, .int .u8 0, .int .u8 0, .int .u8 0, .int .u8 0, .int .u8 0, .int .u8 0, .int .u8 0, .int .u8 0, .int .u8 0, .int .u8 0, .int .u8 0, .int .u8 0, .int .u8 0, .int .u8 0] 44)
            have hr8 := old_alloc hr8 (.cells #[.int .i64 0, .int .u8 0, .int .u8 0, .int .u8 0, .int .u8 0, .int .u8 0, .int .u8 0, .int .u8 0, .int .u8 0, .int .u8 0, .int .u8 0, .int .u8 0, .int .u8 0, .int .u8 0, .int .u8 0, .int .u8 0, .int .u8 0, .int .u8 0, .int .u8 0, .int .u8 0, .int .u8 0] 44)
            have hr9 := old_alloc hr9 (.cells #[.int .i64 0, .int .u8 0, .int .u8 0, .int .u8 0, .int .u8 0, .int .u8 0, .int .u8 0, .int .u8 0, .int .u8 0, .int .u8 0, .int .u8 0, .int .u8 0, .int .u8 0, .int .u8 0, .int .u8 0, .int .u8 0, .int .u8 0, .int .u8 0, .int .u8 0, .int .u8 0, .int .u8 0] 44)
            refine hK.out _ _ (hHeld.alloc hHeld.size _) (fun hNew => ?_)
            clear hK K hHeld
            have hHeld := hNew
            clear hNew
            (try simp only [Act.put, List.setIfInBounds_toArray, List.set_cons_zero, List.set_cons_succ])
            generalize hgg : ww3.heap.size = g11 at hr11 hw11 hl1011 hl811 hl911 ⊢
            generalize hvv : ww3.alloc (.cells #[.int .i64 0, .int .u8 0, .int .u8 0, .int .u8 0, .int .u8 0, .int .u8 0, .int .u8 0, .int .u8 0, .int .u8 0, .int .u8 0, .int .u8 0, .int .u8 0, .int .u8 0, .int .u8 0, .int .u8 0, .int .u8 0, .int .u8 0, .int .u8 0, .int .u8 0, .int .u8 0, .int .u8 0] 44) = ww4 at hr10 hr8 hr9 hr11 hHeld ⊢
            clear hgg hvv
            refine wpAnyH_ready (rs := [12]) (by decide +kernel) (by simp) ?_
            refine AllReadyH.cons (o := ?_) (by simp only [List.getElem?_toArray, List.getElem?_cons_zero, List.getElem?_cons_succ]; rfl) (fun K hK => ?_) AllReadyH.nil
            rw [if_pos (by rfl)]
            refine wp_store_row _ _ _ rfl g8 F1.toArray rfl rfl _ _ hr8 Hf1.out.1 Hf1.out.2.1 Hf1.out.2.2 ?_
            have hr9 := (setRow_other ww4 g8 g9 F1.toArray (Nat.ne_of_gt hl89)).trans hr9
            have hr10 := (setRow_other ww4 g8 g10 F1.toArray (Nat.ne_of_lt hl108)).trans hr10
            have hr11 := (setRow_other ww4 g8 g11 F1.toArray (Nat.ne_of_gt hl811)).trans hr11
            have hr8 := setRow_heap ww4 g8 _ F1.toArray _ _ hr8
            refine hK.out _ _ (below_setRow hHeld hw8 _) (fun hNew => ?_)
            clear hK K hHeld
            have hHeld := hNew
            clear hNew
            (try simp only [Act.put])
            generalize hvv : ww4.setRow g8 F1.toArray = xx1 at hr8 hr9 hr10 hr11 hHeld ⊢
            clear hvv
            refine wpAnyH_ready (rs := [13]) (by decide +kernel) (by simp) ?_
            refine AllReadyH.cons (o := ?_) (by simp only [List.getElem?_toArray, List.getElem?_cons_zero, List.getElem?_cons_succ]; rfl) (fun K hK => ?_) AllReadyH.nil
            rw [if_pos (by rfl)]
            refine wp_store_row _ _ _ rfl g9 F2.toArray rfl rfl _ _ hr9 Hf2.out.1 Hf2.out.2.1 Hf2.out.2.2 ?_
            have hr8 := (setRow_other xx1 g9 g8 F2.toArray (Nat.ne_of_lt hl89)).trans hr8
            have hr10 := (setRow_other xx1 g9 g10 F2.toArray (Nat.ne_of_lt hl109)).trans hr10
            have hr11 := (setRow_other xx1 g9 g11 F2.toArray (Nat.ne_of_gt hl911)).trans hr11
            have hr9 := setRow_heap xx1 g9 _ F2.toArray _ _ hr9
            refine hK.out _ _ (below_setRow hHeld hw9 _) (fun hNew => ?_)
            clear hK K hHeld
            have hHeld := hNew
            clear hNew
            (try simp only [Act.put])
            generalize hvv : xx1.setRow g9 F2.toArray = xx2 at hr8 hr9 hr10 hr11 hHeld ⊢
            clear hvv
            refine wpAnyH_ready (rs := [14]) (by decide +kernel) (by simp) ?_
            refine AllReadyH.cons (o := ?_) (by simp only [List.getElem?_toArray, List.getElem?_cons_zero, List.getElem?_cons_succ]; rfl) (fun K hK => ?_) AllReadyH.nil
            rw [if_pos (by rfl)]
            refine wp_store_row _ _ _ rfl g10 R1.toArray rfl rfl _ _ hr10 Hr1.out.1 Hr1.out.2.1 Hr1.out.2.2 ?_
            have hr8 := (setRow_other xx2 g10 g8 R1.toArray (Nat.ne_of_gt hl108)).trans hr8
            have hr9 := (setRow_other xx2 g10 g9 R1.toArray (Nat.ne_of_gt hl109)).trans hr9
            have hr11 := (setRow_other xx2 g10 g11 R1.toArray (Nat.ne_of_gt hl1011)).trans hr11
            have hr10 := setRow_heap xx2 g10 _ R1.toArray _ _ hr10
            refine hK.out _ _ (below_setRow hHeld hw10 _) (fun hNew => ?_)
            clear hK K hHeld
            have hHeld := hNew
            clear hNew
            (try simp only [Act.put])
            generalize hvv : xx2.setRow g10 R1.toArray = xx3 at hr8 hr9 hr10 hr11 hHeld ⊢
            clear hvv
            refine wpAnyH_ready (rs := [15]) (by decide +kernel) (by simp) ?_
            refine AllReadyH.cons (o := ?_) (by simp only [List.getElem?_toArray, List.getElem?_cons_zero, List.getElem?_cons_succ]; rfl) (fun K hK => ?_) AllReadyH.nil
            rw [if_pos (by rfl)]
            refine wp_store_row _ _ _ rfl g11 R2.toArray rfl rfl _ _ hr11 Hr2.out.1 Hr2.out.2.1 Hr2.out.2.2 ?_
            have hr8 := (setRow_other xx3 g11 g8 R2.toArray (Nat.ne_of_lt hl811)).trans hr8
            have hr9 := (setRow_other xx3 g11 g9 R2.toArray (Nat.ne_of_lt hl911)).trans hr9
            have hr10 := (setRow_other xx3 g11 g10 R2.toArray (Nat.ne_of_lt hl1011)).trans hr10
            have hr11 := setRow_heap xx3 g11 _ R2.toArray _ _ hr11
            refine hK.out _ _ (below_setRow hHeld hw11 _) (fun hNew => ?_)
            clear hK K hHeld
            have hHeld := hNew
            clear hNew
            (try simp only [Act.put])
            generalize hvv : xx3.setRow g11 R2.toArray = xx4 at hr8 hr9 hr10 hr11 hHeld ⊢
            clear hvv
            refine wpAnyH_done (by decide +kernel) ?_ _
            have HE : Hid (Cut1 F1 F2 R1 R2 w (.pointer (some ⟨g8, 0, none⟩)) (.pointer (some ⟨g9, 0, none⟩)) (.pointer (some ⟨g10, 0, none⟩)) (.pointer (some ⟨g11, 0, none⟩)) xx4) := ⟨g8, g9, g10, g11, rfl, rfl, rfl, rfl, hr8, hr9, hr10, hr11, HB2.out.trans (hHeld.mono HB2.out.size)⟩
            clear hr8 hr9 hr10 hr11 hHeld
            go_wp2_with fail
            go_meet
            exact HE
          exact AllReadyH.nil
        refine AllReadyH.cons (o := ?_) (by simp only [List.getElem?_toArray, List.getElem?_cons_zero, List.getElem?_cons_succ]; rfl) (fun K hK => ?_) ?_
        · go_simp
          have hl1011 := row_lt hr10
          have hl811 := row_lt hr8
          have hr11 := heap_alloc_new ww2 (.cells #[.int .i64 0, .int .u8 0, .int .u8 0, .int .u8 0, .int .u8 0, .int .u8 0, .int .u8 0, .int .u8 0, .int .u8 0, .int .u8 0, .int .u8 0, .int .u8 0, .int .u8 0, .int .u8 0, .int .u8 0, .int .u8 0, .int .u8 0, .int .u8 0, .int .u8 0, .int .u8 0, .int .u8 0] 44)
          have hw11 := hHeld.size
          have hr10 := old_alloc hr10 (.cells #[.int .i64 0, .int .u8 0, .int .u8 0, .int .u8 0, .int .u8 0, .int .u8 0, .int .u8 0, .int .u8 0, .int .u8 0, .int .u8 0, .int .u8 0, .int .u8 0, .int .u8 0, .int .u8 0, .int .u8 0, .int .u8 0, .int .u8 0, .int .u8 0, .int .u8 0, .int .u8 0, .int .u8 0] 44)
          have hr8 := old_alloc hr8 (.cells #[.int .i64 0, .int .u8 0, .int .u8 0, .int .u8 0, .int .u8 0, .int .u8 0, .int .u8 0, .int .u8 0, .int .u8 0, .int .u8 0, .int .u8 0, .int .u8 0, .int .u8 0, .int .u8 0, .int .u8 0, .int .u8 0, .int .u8 0, .int .u8 0, .int .u8 0, .int .u8 0, .int .u8 0] 44)
          refine hK.out _ _ (hHeld.alloc hHeld.size _) (fun hNew => ?_)
          clear hK K hHeld
          have hHeld := hNew
          clear hNew
          (try simp only [Act.put, List.setIfInBounds_toArray, List.set_cons_zero, List.set_cons_succ])
          generalize hgg : ww2.heap.size = g11 at hr11 hw11 hl1011 hl811 ⊢
          generalize hvv : ww2.alloc (.cells #[.int .i64 0, .int .u8 0, .int .u8 0, .int .u8 0, .int .u8 0, .int .u8 0, .int .u8 0, .int .u8 0, .int .u8 0, .int .u8 0, .int .u8 0, .int .u8 0, .int .u8 0, .int .u8 0, .int .u8 0, .int .u8 0, .int .u8 0, .int .u8 0, .int .u8 0, .int .u8 0, .int .u8 0] 44) = ww3 at hr10 hr8 hr11 hHeld ⊢
          clear hgg hvv
          refine wpAnyH_ready (rs := [9]) (by decide +kernel) (by simp) ?_
          refine AllReadyH.cons (o := ?_) (by simp only [List.getElem?_toArray, List.getElem?_cons_zero, List.getElem?_cons_succ]; rfl) (fun K hK => ?_) ?_
          · go_simp
            have hl109 := row_lt hr10
            have hl89 := row_lt hr8
            have hl119 := row_lt hr11
            have hr9 := heap_alloc_new ww3 (.cells #[.int .u8 0, .int .u8 0, .int .u8 0, .int .u8 0, .int .u8 0, .int .u8 0, .int .u8 0, .int .u8 0, .int .u8 0, .int .u8 0, .int .u8 0, .int .u8 0, .int .u16 0, .slice none 0 0] 27)
            have hw9 := hHeld.size
            have hr10 := old_alloc hr10 (.cells #[.int .u8 0, .int .u8 0, .int .u8 0, .int .u8 0, .int .u8 0, .int .u8 0, .int .u8 0, .int .u8 0, .int .u8 0, .int .u8 0, .int .u8 0, .int .u8 0, .int .u16 0, .slice none 0 0] 27)
            have hr8 := old_alloc hr8 (.cells #[.int .u8 0, .int .u8 0, .int .u8 0, .int .u8 0, .int .u8 0, .int .u8 0, .int .u8 0, .int .u8 0, .int .u8 0, .int .u8 0, .int .u8 0, .int .u8 0, .int .u16 0, .slice none 0 0] 27)
            have hr11 := old_alloc hr11 (.cells #[.int .u8 0, .int .u8 0, .int .u8 0, .int .u8 0, .int .u8 0, .int .u8 0, .int .u8 0, .int .u8 0, .int .u8 0, .int .u8 0, .int .u8 0, .int .u8 0, .int .u16 0, .slice none 0 0] 27)
            refine hK.out _ _ (hHeld.alloc hHeld.size _) (fun hNew => ?_)
            clear hK K hHeld
            have hHeld := hNew
            clear hNew
            (try simp only [Act.put, List.setIfInBounds_toArray, List.set_cons_zero, List.set_cons_succ])
            generalize hgg : ww3.heap.size = g9 at hr9 hw9 hl109 hl89 hl119 ⊢
            generalize hvv : ww3.alloc (.cells #[.int .u8 0, .int .u8 0, .int .u8 0, .int .u8 0, .int .u8 0, .int .u8 0, .int .u8 0, .int .u8 0, .int .u8 0, .int .u8 0, .int .u8 0, .int .u8 0, .int .u16 0, .slice none 0 0] 27) = ww4 at hr10 hr8 hr11 hr9 hHeld ⊢
            clear hgg hvv
            refine wpAnyH_ready (rs := [12]) (by decide +kernel) (by simp) ?_
            refine AllReadyH.cons (o := ?_) (by simp only [List.getElem?_toArray, List.getElem?_cons_zero, List.getElem?_cons_succ]; rfl) (fun K hK => ?_) AllReadyH.nil
            rw [if_pos (by rfl)]
            refine wp_store_row _ _ _ rfl g8 F1.toArray rfl rfl _ _ hr8 Hf1.out.1 Hf1.out.2.1 Hf1.out.2.2 ?_
            have hr9 := (setRow_other ww4 g8 g9 F1.toArray (Nat.ne_of_gt hl89)).trans hr9
            have hr10 := (setRow_other ww4 g8 g10 F1.toArray (Nat.ne_of_lt hl108)).trans hr10
            have hr11 := (setRow_other ww4 g8 g11 F1.toArray (Nat.ne_of_gt hl811)).trans hr11
            have hr8 := setRow_heap ww4 g8 _ F1.toArray _ _ hr8
            refine hK.out _ _ (below_setRow hHeld hw8 _) (fun hNew => ?_)
            clear hK K hHeld
            have hHeld := hNew
            clear hNew
            (try simp only [Act.put])
            generalize hvv : ww4.setRow g8 F1.toArray = xx1 at hr8 hr9 hr10 hr11 hHeld ⊢
            clear hvv
            refine wpAnyH_ready (rs := [13]) (by decide +kernel) (by simp) ?_
            refine AllReadyH.cons (o := ?_) (by simp only [List.getElem?_toArray, List.getElem?_cons_zero, List.getElem?_cons_succ]; rfl) (fun K hK => ?_) AllReadyH.nil
            rw [if_pos (by rfl)]
            refine wp_store_row _ _ _ rfl g9 F2.toArray rfl rfl _ _ hr9 Hf2.out.1 Hf2.out.2.1 Hf2.out.2.2 ?_
            have hr8 := (setRow_other xx1 g9 g8 F2.toArray (Nat.ne_of_lt hl89)).trans hr8
            have hr10 := (setRow_other xx1 g9 g10 F2.toArray (Nat.ne_of_lt hl109)).trans hr10
            have hr11 := (setRow_other xx1 g9 g11 F2.toArray (Nat.ne_of_lt hl119)).trans hr11
            have hr9 := setRow_heap xx1 g9 _ F2.toArray _ _ hr9
            refine hK.out _ _ (below_setRow hHeld hw9 _) (fun hNew => ?_)
            clear hK K hHeld
            have hHeld := hNew
            clear hNew
            (try simp only [Act.put])
            generalize hvv : xx1.setRow g9 F2.toArray = xx2 at hr8 hr9 hr10 hr11 hHeld ⊢
            clear hvv
            refine wpAnyH_ready (rs := [14]) (by decide +kernel) (by simp) ?_
            refine AllReadyH.cons (o := ?_) (by simp only [List.getElem?_toArray, List.getElem?_cons_zero, List.getElem?_cons_succ]; rfl) (fun K hK => ?_) AllReadyH.nil
            rw [if_pos (by rfl)]
            refine wp_store_row _ _ _ rfl g10 R1.toArray rfl rfl _ _ hr10 Hr1.out.1 Hr1.out.2.1 Hr1.out.2.2 ?_
            have hr8 := (setRow_other xx2 g10 g8 R1.toArray (Nat.ne_of_gt hl108)).trans hr8
            have hr9 := (setRow_other xx2 g10 g9 R1.toArray (Nat.ne_of_gt hl109)).trans hr9
            have hr11 := (setRow_other xx2 g10 g11 R1.toArray (Nat.ne_of_gt hl1011)).trans hr11
            have hr10 := setRow_heap xx2 g10 _ R1.toArray _ _ hr10
            refine hK.out _ _ (below_setRow hHeld hw10 _) (fun hNew => ?_)
            clear hK K hHeld
            have hHeld := hNew
            clear hNew
            (try simp only [Act.put])
            generalize hvv : xx2.setRow g10 R1.toArray = xx3 at hr8 hr9 hr10 hr11 hHeld ⊢
            clear hvv
            refine wpAnyH_ready (rs := [15]) (by decide +kernel) (by simp) ?_
            refine AllReadyH.cons (o := ?_) (by simp only [List.getElem?_toArray, List.getElem?_cons_zero, List.getElem?_cons_succ]; rfl) (fun K hK => ?_) AllReadyH.nil
            rw [if_pos (by rfl)]
            refine wp_store_row _ _ _ rfl g11 R2.toArray rfl rfl _ _ hr11 Hr2.out.1 Hr2.out.2.1 Hr2.out.2.2 ?_
            have hr8 := (setRow_other xx3 g11 g8 R2.toArray (Nat.ne_of_lt hl811)).trans hr8
            have hr9 := (setRow_other xx3 g11 g9 R2.toArray (Nat.ne_of_gt hl119)).trans hr9
            have hr10 := (setRow_other xx3 g11 g10 R2.toArray (Nat.ne_of_lt hl1011)).trans hr10
            have hr11 := setRow_heap xx3 g11 _ R2.toArray _ _ hr11
            refine hK.out _ _ (below_setRow hHeld hw11 _) (fun hNew => ?_)
            clear hK K hHeld
            have hHeld := hNew
            clear hNew
            (try simp only [Act.put])
            generalize hvv : xx3.setRow g11 R2.toArray = xx4 at hr8 hr9 hr10 hr11 hHeld ⊢
            clear hvv
            refine wpAnyH_done (by decide +kernel) ?_ _
            have HE : Hid (Cut1 F1 F2 R1 R2 w (.pointer (some ⟨g8, 0, none⟩)) (.pointer (some ⟨g9, 0, none⟩)) (.pointer (some ⟨g10, 0, none⟩)) (.pointer (some ⟨g11, 0, none⟩)) xx4) := ⟨g8, g9, g10, g11, rfl, rfl, rfl, rfl, hr8, hr9, hr10, hr11, HB2.out.trans (hHeld.mono HB2.out.size)⟩
            clear hr8 hr9 hr10 hr11 hHeld
            go_wp2_with fail
            go_meet
            exact HE
          exact AllReadyH.nil
        exact AllReadyH.nil
      refine AllReadyH.cons (o := ?_) (by simp only [List.getElem?_toArray, List.getElem?_cons_zero, List.getElem?_cons_succ]; rfl) (fun K hK => ?_) ?_
      · go_simp
        have hl109 := row_lt hr10
        have hr9 := heap_alloc_new ww1 (.cells #[.int .u8 0, .int .u8 0, .int .u8 0, .int .u8 0, .int .u8 0, .int .u8 0, .int .u8 0, .int .u8 0, .int .u8 0, .int .u8 0, .int .u8 0, .int .u8 0, .int .u16 0, .slice none 0 0] 27)
        have hw9 := hHeld.size
        have hr10 := old_alloc hr10 (.cells #[.int .u8 0, .int .u8 0, .int .u8 0, .int .u8 0, .int .u8 0, .int .u8 0, .int .u8 0, .int .u8 0, .int .u8 0, .int .u8 0, .int .u8 0, .int .u8 0, .int .u16 0, .slice none 0 0] 27)
        refine hK.out _ _ (hHeld.alloc hHeld.size _) (fun hNew => ?_)
        clear hK K hHeld
        have hHeld := hNew
        clear hNew
        (try simp only [Act.put, List.setIfInBounds_toArray, List.set_cons_zero, List.set_cons_succ])
        generalize hgg : ww1.heap.size = g9 at hr9 hw9 hl109 ⊢
        generalize hvv : ww1.alloc (.cells #[.int .u8 0, .int .u8 0, .int .u8 0, .int .u8 0, .int .u8 0, .int .u8 0, .int .u8 0, .int .u8 0, .int .u8 0, .int .u8 0, .int .u8 0, .int .u8 0, .int .u16 0, .slice none 0 0] 27) = ww2 at hr10 hr9 hHeld ⊢
        clear hgg hvv
        refine wpAnyH_ready (rs := [8, 11]) (by decide +kernel) (by simp) ?_
        refine AllReadyH.cons (o := ?_) (by simp only [List.getElem?_toArray, List.getElem?_cons_zero, List.getElem?_cons_succ]; rfl) (fun K hK => ?_) ?_
        · go_simp
          have hl108 := row_lt hr10
          have hl98 := row_lt hr9
          have hr8 := heap_alloc_new ww2 (.cells #[.int .u8 0, .int .u8 0, .int .u8 0, .int .u8 0, .int .u8 0, .int .u8 0, .int .u8 0, .int .u8 0, .int .u8 0, .int .u8 0, .int .u8 0, .int .u8 0, .int .u16 0, .slice none 0 0] 27)
          have hw8 := hHeld.size
          have hr10 := old_alloc hr10 (.cells #[.int .u8 0, .int .u8 0, .int .u8 0, .int .u8 0, .int .u8 0, .int .u8 0, .int .u8 0, .int .u8 0, .int .u8 0, .int .u8 0, .int .u8 0, .int .u8 0, .int .u16 0, .slice none 0 0] 27)
          have hr9 := old_alloc hr9 (.cells #[.int .u8 0, .int .u8 0, .int .u8 0, .int .u8 0, .int .u8 0, .int .u8 0, .int .u8 0, .int .u8 0, .int .u8 0, .int .u8 0, .int .u8 0, .int .u8 0, .int .u16 0, .slice none 0 0] 27)
          refine hK.out _ _ (hHeld.alloc hHeld.size _) (fun hNew => ?_)
          clear hK K hHeld
          have hHeld := hNew
          clear hNew
          (try simp only [Act.put, List.setIfInBounds_toArray, List.set_cons_zero, List.set_cons_succ])
          generalize hgg : ww2.heap.size = g8 at hr8 hw8 hl108 hl98 ⊢
          generalize hvv : ww2.alloc (.cells #[.int .u8 0, .int .u8 0, .int .u8 0, .int .u8 0, .int .u8 0, .int .u8 0, .int .u8 0, .int .u8 0, .int .u8 0, .int .u8 0, .int .u8 0, .int .u8 0, .int .u16 0, .slice none 0 0] 27) = ww3 at hr10 hr9 hr8 hHeld ⊢
          clear hgg hvv
          refine wpAnyH_ready (rs := [11]) (by decide +kernel) (by simp) ?_
          refine AllReadyH.cons (o := ?_) (by simp only [List.getElem?_toArray, List.getElem?_cons_zero, List.getElem?_cons_succ]; rfl) (fun K hK => ?_) ?_
          · go_simp
            have hl1011 := row_lt hr10
            have hl911 := row_lt hr9
            have hl811 := row_lt hr8
            have hr11 := heap_alloc_new ww3 (.cells #[.int .i64 0, .int .u8 0, .int .u8 0, .int .u8 0, .int .u8 0, .int .u8 0, .int .u8 0, .int .u8 0, .int .u8 0, .int .u8 0, .int .u8 0, .int .u8 0, .int .u8 0, .int .u8 0, .int .u8 0, .int .u8 0, .int .u8 0, .int .u8 0, .int .u8 0, .int .u8 0, .int .u8 0] 44)
            have hw11 := hHeld.size
            have hr10 := old_alloc hr10 (.cells #[.int .i64 0, .int .u8 0, .int .u8 0, .int .u8 0, .int .u8 0, .int .u8 0, .int .u8 0, .int .u8 0, .int .u8 0, .int .u8 0, .int .u8 0, .int .u8 0, .int .u8 0, .int .u8 0, .int .u8 0, .int .u8 0, .int .u8 0, .int .u8 0, .int .u8 0, .int .u8 0, .int .u8 0] 44)
            have hr9 := old_alloc hr9 (.cells #[.int .i64 0, .int .u8 0, .int .u8 0, .int .u8 0, .int .u8 0, .int .u8 0, .int .u8 0, .int .u8 0, .int .u8 0, .int .u8 0, .int .u8 0, .int .u8 0, .int .u8 0, .int .u8 0, .int .u8 0, .int .u8 0, .int .u8 0, .int .u8 0, .int .u8 0, .int .u8 0, .int .u8 0] 44)
            have hr8 := old_alloc hr8 (.cells #[.int .i64 0, .int .u8 0, .int .u8 0, .int .u8 0, .int .u8 0, .int .u8 0, .int .u8 0, .int .u8 0, .int .u8 0, .int .u8 0, .int .u8 0, .int .u8 0, .int .u8 0, .int .u8 0, .int .u8 0, .int .u8 0, .int .u8 0, .int .u8 0, .int .u8 0, .int .u8 0, .int .u8 0] 44)
            refine hK.out _ _ (hHeld.alloc hHeld.size _) (fun hNew => ?_)
            clear hK K hHeld
            have hHeld := hNew
            clear hNew
            (try simp only [Act.put, List.setIfInBounds_toArray, List.set_cons_zero, List.set_cons_succ])
            generalize hgg : ww3.heap.size = g11 at hr11 hw11 hl1011 hl911 hl811 ⊢
            generalize hvv : ww3.alloc (.cells #[.int .i64 0, .int .u8 0, .int .u8 0, .int .u8 0, .int .u8 0, .int .u8 0, .int .u8 0, .int .u8 0, .int .u8 0, .int .u8 0, .int .u8 0, .int .u8 0, .int .u8 0, .int .u8 0, .int .u8 0, .int .u8 0, .int .u8 0, .int .u8 0, .int .u8 0, .int .u8 0, .int .u8 0] 44) = ww4 at hr10 hr9 hr8 hr11 hHeld ⊢
            clear hgg hvv
            refine wpAnyH_ready (rs := [12]) (by decide +kernel) (by simp) ?_
            refine AllReadyH.cons (o := ?_) (by simp only [List.getElem?_toArray, List.getElem?_cons_zero, List.getElem?_cons_succ]; rfl) (fun K hK => ?_) AllReadyH.nil
            rw [if_pos (by rfl)]
            refine wp_store_row _ _ _ rfl g8 F1.toArray rfl rfl _ _ hr8 Hf1.out.1 Hf1.out.2.1 Hf1.out.2.2 ?_
            have hr9 := (setRow_other ww4 g8 g9 F1.toArray (Nat.ne_of_lt hl98)).trans hr9
            have hr10 := (setRow_other ww4 g8 g10 F1.toArray (Nat.ne_of_lt hl108)).trans hr10
            have hr11 := (setRow_other ww4 g8 g11 F1.toArray (Nat.ne_of_gt hl811)).trans hr11
            have hr8 := setRow_heap ww4 g8 _ F1.toArray _ _ hr8
            refine hK.out _ _ (below_setRow hHeld hw8 _) (fun hNew => ?_)
            clear hK K hHeld
            have hHeld := hNew
            clear hNew
            (try simp only [Act.put])
            generalize hvv : ww4.setRow g8 F1.toArray = xx1 at hr8 hr9 hr10 hr11 hHeld ⊢
            clear hvv
            refine wpAnyH_ready (rs := [13]) (by decide +kernel) (by simp) ?_
            refine AllReadyH.cons (o := ?_) (by simp only [List.getElem?_toArray, List.getElem?_cons_zero, List.getElem?_cons_succ]; rfl) (fun K hK => ?_) AllReadyH.nil
            rw [if_pos (by rfl)]
            refine wp_store_row _ _ _ rfl g9 F2.toArray rfl rfl _ _ hr9 Hf2.out.1 Hf2.out.2.1 Hf2.out.2.2 ?_
            have hr8 := (setRow_other xx1 g9 g8 F2.toArray (Nat.ne_of_gt hl98)).trans hr8
            have hr10 := (setRow_other xx1 g9 g10 F2.toArray (Nat.ne_of_lt hl109)).trans hr10
            have hr11 := (setRow_other xx1 g9 g11 F2.toArray (Nat.ne_of_gt hl911)).trans hr11
            have hr9 := setRow_heap xx1 g9 _ F2.toArray _ _ hr9
            refine hK.out _ _ (below_setRow hHeld hw9 _) (fun hNew => ?_)
            clear hK K hHeld
            have hHeld := hNew
            clear hNew
            (try simp only [Act.put])
            generalize hvv : xx1.setRow g9 F2.toArray = xx2 at hr8 hr9 hr10 hr11 hHeld ⊢
            clear hvv
            refine wpAnyH_ready (rs := [14]) (by decide +kernel) (by simp) ?_
            refine AllReadyH.cons (o := ?_) (by simp only [List.getElem?_toArray, List.getElem?_cons_zero, List.getElem?_cons_succ]; rfl) (fun K hK => ?_) AllReadyH.nil
            rw [if_pos (by rfl)]
            refine wp_store_row _ _ _ rfl g10 R1.toArray rfl rfl _ _ hr10 Hr1.out.1 Hr1.out.2.1 Hr1.out.2.2 ?_
            have hr8 := (setRow_other xx2 g10 g8 R1.toArray (Nat.ne_of_gt hl108)).trans hr8
            have hr9 := (setRow_other xx2 g10 g9 R1.toArray (Nat.ne_of_gt hl109)).trans hr9
            have hr11 := (setRow_other xx2 g10 g11 R1.toArray (Nat.ne_of_gt hl1011)).trans hr11
            have hr10 := setRow_heap xx2 g10 _ R1.toArray _ _ hr10
            refine hK.out _ _ (below_setRow hHeld hw10 _) (fun hNew => ?_)
            clear hK K hHeld
            have hHeld := hNew
            clear hNew
            (try simp only [Act.put])
            generalize hvv : xx2.setRow g10 R1.toArray = xx3 at hr8 hr9 hr10 hr11 hHeld ⊢
            clear hvv
            refine wpAnyH_ready (rs := [15]) (by decide +kernel) (by simp) ?_
            refine AllReadyH.cons (o := ?_) (by simp only [List.getElem?_toArray, List.getElem?_cons_zero, List.getElem?_cons_succ]; rfl) (fun K hK => ?_) AllReadyH.nil
            rw [if_pos (by rfl)]
            refine wp_store_row _ _ _ rfl g11 R2.toArray rfl rfl _ _ hr11 Hr2.out.1 Hr2.out.2.1 Hr2.out.2.2 ?_
            have hr8 := (setRow_other xx3 g11 g8 R2.toArray (Nat.ne_of_lt hl811)).trans hr8
            have hr9 := (setRow_other xx3 g11 g9 R2.toArray (Nat.ne_of_lt hl911)).trans hr9
            have hr10 := (setRow_other xx3 g11 g10 R2.toArray (Nat.ne_of_lt hl1011)).trans hr10
            have hr11 := setRow_heap xx3 g11 _ R2.toArray _ _ hr11
            refine hK.out _ _ (below_setRow hHeld hw11 _) (fun hNew => ?_)
            clear hK K hHeld
            have hHeld := hNew
            clear hNew
            (try simp only [Act.put])
            generalize hvv : xx3.setRow g11 R2.toArray = xx4 at hr8 hr9 hr10 hr11 hHeld ⊢
            clear hvv
            refine wpAnyH_done (by decide +kernel) ?_ _
            have HE : Hid (Cut1 F1 F2 R1 R2 w (.pointer (some ⟨g8, 0, none⟩)) (.pointer (some ⟨g9, 0, none⟩)) (.pointer (some ⟨g10, 0, none⟩)) (.pointer (some ⟨g11, 0, none⟩)) xx4) := ⟨g8, g9, g10, g11, rfl, rfl, rfl, rfl, hr8, hr9, hr10, hr11, HB2.out.trans (hHeld.mono HB2.out.size)⟩
            clear hr8 hr9 hr10 hr11 hHeld
            go_wp2_with fail
            go_meet
            exact HE
          exact AllReadyH.nil
        refine AllReadyH.cons (o := ?_) (by simp only [List.getElem?_toArray, List.getElem?_cons_zero, List.getElem?_cons_succ]; rfl) (fun K hK => ?_) ?_
        · go_simp
          have hl1011 := row_lt hr10
          have hl911 := row_lt hr9
          have hr11 := heap_alloc_new ww2 (.cells #[.int .i64 0, .int .u8 0, .int .u8 0, .int .u8 0, .int .u8 0, .int .u8 0, .int .u8 0, .int .u8 0, .int .u8 0, .int .u8 0, .int .u8 0, .int .u8 0, .int .u8 0, .int .u8 0, .int .u8 0, .int .u8 0, .int .u8 0, .int .u8 0, .int .u8 0, .int .u8 0, .int .u8 0] 44)
          have hw11 := hHeld.size
          have hr10 := old_alloc hr10 (.cells #[.int .i64 0, .int .u8 0, .int .u8 0, .int .u8 0, .int .u8 0, .int .u8 0, .int .u8 0, .int .u8 0, .int .u8 0, .int .u8 0, .int .u8 0, .int .u8 0, .int .u8 0, .int .u8 0, .int .u8 0, .int .u8 0, .int .u8 0, .int .u8 0, .int .u8 0, .int .u8 0, .int .u8 0] 44)
          have hr9 := old_alloc hr9 (.cells #[.int .i64 0, .int .u8 0, .int .u8 0, .int .u8 0, .int .u8 0, .int .u8 0, .int .u8 0, .int .u8 0, .int .u8 0, .int .u8 0, .int .u8 0, .int .u8 0, .int .u8 0, .int .u8 0, .int .u8 0, .int .u8 0, .int .u8 0, .int .u8 0, .int .u8 0, .int .u8 0, .int .u8 0] 44)
          refine hK.out _ _ (hHeld.alloc hHeld.size _) (fun hNew => ?_)
          clear hK K hHeld
          have hHeld := hNew
          clear hNew
          (try simp only [Act.put, List.setIfInBounds_toArray, List.set_cons_zero, List.set_cons_succ])
          generalize hgg : ww2.heap.size = g11 at hr11 hw11 hl1011 hl911 ⊢
          generalize hvv : ww2.alloc (.cells #[.int .i64 0, .int .u8 0, .int .u8 0, .int .u8 0, .int .u8 0, .int .u8 0, .int .u8 0, .int .u8 0, .int .u8 0, .int .u8 0, .int .u8 0, .int .u8 0, .int .u8 0, .int .u8 0, .int .u8 0, .int .u8 0, .int .u8 0, .int .u8 0, .int .u8 0, .int .u8 0, .int .u8 0] 44) = ww3 at hr10 hr9 hr11 hHeld ⊢
          clear hgg hvv
          refine wpAnyH_ready (rs := [8]) (by decide +kernel) (by simp) ?_
          refine AllReadyH.cons (o := ?_) (by simp only [List.getElem?_toArray, List.getElem?_cons_zero, List.getElem?_cons_succ]; rfl) (fun K hK => ?_) ?_
          · go_simp
            have hl108 := row_lt hr10
            have hl98 := row_lt hr9
            have hl118 := row_lt hr11
            have hr8 := heap_alloc_new ww3 (.cells #[.int .u8 0, .int .u8 0, .int .u8 0, .int .u8 0, .int .u8 0, .int .u8 0, .int .u8 0, .int .u8 0, .int .u8 0, .int .u8 0, .int .u8 0, .int .u8 0, .int .u16 0, .slice none 0 0] 27)
            have hw8 := hHeld.size
            have hr10 := old_alloc hr10 (.cells #[.int .u8 0, .int .u8 0, .int .u8 0, .int .u8 0, .int .u8 0, .int .u8 0, .int .u8 0, .int .u8 0, .int .u8 0, .int .u8 0, .int .u8 0, .int .u8 0, .int .u16 0, .slice none 0 0] 27)
            have hr9 := old_alloc hr9 (.cells #[.int .u8 0, .int .u8 0, .int .u8 0, .int .u8 0, .int .u8 0, .int .u8 0, .int .u8 0, .int .u8 0, .int .u8 0, .int .u8 0, .int .u8 0, .int .u8 0, .int .u16 0, .slice none 0 0] 27)
            have hr11 := old_alloc hr11 (.cells #[.int .u8 0, .int .u8 0, .int .u8 0, .int .u8 0, .int .u8 0, .int .u8 0, .int .u8 0, .int .u8 0, .int .u8 0, .int .u8 0, .int .u8 0, .int .u8 0, .int .u16 0, .slice none 0 0] 27)
            refine hK.out _ _ (hHeld.alloc hHeld.size _) (fun hNew => ?_)
            clear hK K hHeld
            have hHeld := hNew
            clear hNew
            (try simp only [Act.put, List.setIfInBounds_toArray, List.set_cons_zero, List.set_cons_succ])
            generalize hgg : ww3.heap.size = g8 at hr8 hw8 hl108 hl98 hl118 ⊢
            generalize hvv : ww3.alloc (.cells #[.int .u8 0, .int .u8 0, .int .u8 0, .int .u8 0, .int .u8 0, .int .u8 0, .int .u8 0, .int .u8 0, .int .u8 0, .int .u8 0, .int .u8 0, .int .u8 0, .int .u16 0, .slice none 0 0] 27) = ww4 at hr10 hr9 hr11 hr8 hHeld ⊢
            clear hgg hvv
            refine wpAnyH_ready (rs := [12]) (by decide +kernel) (by simp) ?_
            refine AllReadyH.cons (o := ?_) (by simp only [List.getElem?_toArray, List.getElem?_cons_zero, List.getElem?_cons_succ]; rfl) (fun K hK => ?_) AllReadyH.nil
            rw [if_pos (by rfl)]
            refine wp_store_row _ _ _ rfl g8 F1.toArray rfl rfl _ _ hr8 Hf1.out.1 Hf1.out.2.1 Hf1.out.2.2 ?_
            have hr9 := (setRow_other ww4 g8 g9 F1.toArray (Nat.ne_of_lt hl98)).trans hr9
            have hr10 := (setRow_other ww4 g8 g10 F1.toArray (Nat.ne_of_lt hl108)).trans hr10
            have hr11 := (setRow_other ww4 g8 g11 F1.toArray (Nat.ne_of_lt hl118)).trans hr11
            have hr8 := setRow_heap ww4 g8 _ F1.toArray _ _ hr8
            refine hK.out _ _ (below_setRow hHeld hw8 _) (fun hNew => ?_)
            clear hK K hHeld
            have hHeld := hNew
            clear hNew
            (try simp only [Act.put])
            generalize hvv : ww4.setRow g8 F1.toArray = xx1 at hr8 hr9 hr10 hr11 hHeld ⊢
            clear hvv
            refine wpAnyH_ready (rs := [13]) (by decide +kernel) (by simp) ?_
            refine AllReadyH.cons (o := ?_) (by simp only [List.getElem?_toArray, List.getElem?_cons_zero, List.getElem?_cons_succ]; rfl) (fun K hK => ?_) AllReadyH.nil
            rw [if_pos (by rfl)]
            refine wp_store_row _ _ _ rfl g9 F2.toArray rfl rfl _ _ hr9 Hf2.out.1 Hf2.out.2.1 Hf2.out.2.2 ?_
            have hr8 := (setRow_other xx1 g9 g8 F2.toArray (Nat.ne_of_gt hl98)).trans hr8
            have hr10 := (setRow_other xx1 g9 g10 F2.toArray (Nat.ne_of_lt hl109)).trans hr10
            have hr11 := (setRow_other xx1 g9 g11 F2.toArray (Nat.ne_of_gt hl911)).trans hr11
            have hr9 := setRow_heap xx1 g9 _ F2.toArray _ _ hr9
            refine hK.out _ _ (below_setRow hHeld hw9 _) (fun hNew => ?_)
            clear hK K hHeld
            have hHeld := hNew
            clear hNew
            (try simp only [Act.put])
            generalize hvv : xx1.setRow g9 F2.toArray = xx2 at hr8 hr9 hr10 hr11 hHeld ⊢
            clear hvv
            refine wpAnyH_ready (rs := [14]) (by decide +kernel) (by simp) ?_
            refine AllReadyH.cons (o := ?_) (by simp only [List.getElem?_toArray, List.getElem?_cons_zero, List.getElem?_cons_succ]; rfl) (fun K hK => ?_) AllReadyH.nil
            rw [if_pos (by rfl)]
            refine wp_store_row _ _ _ rfl g10 R1.toArray rfl rfl _ _ hr10 Hr1.out.1 Hr1.out.2.1 Hr1.out.2.2 ?_
            have hr8 := (setRow_other xx2 g10 g8 R1.toArray (Nat.ne_of_gt hl108)).trans hr8
            have hr9 := (setRow_other xx2 g10 g9 R1.toArray (Nat.ne_of_gt hl109)).trans hr9
            have hr11 := (setRow_other xx2 g10 g11 R1.toArray (Nat.ne_of_gt hl1011)).trans hr11
            have hr10 := setRow_heap xx2 g10 _ R1.toArray _ _ hr10
            refine hK.out _ _ (below_setRow hHeld hw10 _) (fun hNew => ?_)
            clear hK K hHeld
            have hHeld := hNew
            clear hNew
            (try simp only [Act.put])
            generalize hvv : xx2.setRow g10 R1.toArray = xx3 at hr8 hr9 hr10 hr11 hHeld ⊢
            clear hvv
            refine wpAnyH_ready (rs := [15]) (by decide +kernel) (by simp) ?_
            refine AllReadyH.cons (o := ?_) (by simp only [List.getElem?_toArray, List.getElem?_cons_zero, List.getElem?_cons_succ]; rfl) (fun K hK => ?_) AllReadyH.nil
            rw [if_pos (by rfl)]
            refine wp_store_row _ _ _ rfl g11 R2.toArray rfl rfl _ _ hr11 Hr2.out.1 Hr2.out.2.1 Hr2.out.2.2 ?_
            have hr8 := (setRow_other xx3 g11 g8 R2.toArray (Nat.ne_of_gt hl118)).trans hr8
            have hr9 := (setRow_other xx3 g11 g9 R2.toArray (Nat.ne_of_lt hl911)).trans hr9
            have hr10 := (setRow_other xx3 g11 g10 R2.toArray (Nat.ne_of_lt hl1011)).trans hr10
            have hr11 := setRow_heap xx3 g11 _ R2.toArray _ _ hr11
            refine hK.out _ _ (below_setRow hHeld hw11 _) (fun hNew => ?_)
            clear hK K hHeld
            have hHeld := hNew
            clear hNew
            (try simp only [Act.put])
            generalize hvv : xx3.setRow g11 R2.toArray = xx4 at hr8 hr9 hr10 hr11 hHeld ⊢
            clear hvv
            refine wpAnyH_done (by decide +kernel) ?_ _
            have HE : Hid (Cut1 F1 F2 R1 R2 w (.pointer (some ⟨g8, 0, none⟩)) (.pointer (some ⟨g9, 0, none⟩)) (.pointer (some ⟨g10, 0, none⟩)) (.pointer (some ⟨g11, 0, none⟩)) xx4) := ⟨g8, g9, g10, g11, rfl, rfl, rfl, rfl, hr8, hr9, hr10, hr11, HB2.out.trans (hHeld.mono HB2.out.size)⟩
            clear hr8 hr9 hr10 hr11 hHeld
            go_wp2_with fail
            go_meet
            exact HE
          exact AllReadyH.nil
        exact AllReadyH.nil
      refine AllReadyH.cons (o := ?_) (by simp only [List.getElem?_toArray, List.getElem?_cons_zero, List.getElem?_cons_succ]; rfl) (fun K hK => ?_) ?_
      · go_simp
        have hl1011 := row_lt hr10
        have hr11 := heap_alloc_new ww1 (.cells #[.int .i64 0, .int .u8 0, .int .u8 0, .int .u8 0, .int .u8 0, .int .u8 0, .int .u8 0, .int .u8 0, .int .u8 0, .int .u8 0, .int .u8 0, .int .u8 0, .int .u8 0, .int .u8 0, .int .u8 0, .int .u8 0, .int .u8 0, .int .u8 0, .int .u8 0, .int .u8 0, .int .u8 0] 44)
        have hw11 := hHeld.size
        have hr10 := old_alloc hr10 (.cells #[.int .i64 0, .int .u8 0, .int .u8 0, .int .u8 0, .int .u8 0, .int .u8 0, .int .u8 0, .int .u8 0, .int .u8 0, .int .u8 0, .int .u8 0, .int .u8 0, .int .u8 0, .int .u8 0, .int .u8 0, .int .u8 0, .int .u8 0, .int .u8 0, .int .u8 0, .int .u8 0, .int .u8 0] 44)
        refine hK.out _ _ (hHeld.alloc hHeld.size _) (fun hNew => ?_)
        clear hK K hHeld
        have hHeld := hNew
        clear hNew
        (try simp only [Act.put, List.setIfInBounds_toArray, List.set_cons_zero, List.set_cons_succ])
        generalize hgg : ww1.heap.size = g11 at hr11 hw11 hl1011 ⊢
        generalize hvv : ww1.alloc (.cells #[.int .i64 0, .int .u8 0, .int .u8 0, .int .u8 0, .int .u8 0, .int .u8 0, .int .u8 0, .int .u8 0, .int .u8 0, .int .u8 0, .int .u8 0, .int .u8 0, .int .u8 0, .int .u8 0, .int .u8 0, .int .u8 0, .int .u8 0, .int .u8 0, .int .u8 0, .int .u8 0, .int .u8 0] 44) = ww2 at hr10 hr11 hHeld ⊢
        clear hgg hvv
        refine wpAnyH_ready (rs := [8, 9]) (by decide +kernel) (by simp) ?_
        refine AllReadyH.cons (o := ?_) (by simp only [List.getElem?_toArray, List.getElem?_cons_zero, List.getElem?_cons_succ]; rfl) (fun K hK => ?_) ?_
        · go_simp
          have hl108 := row_lt hr10
          have hl118 := row_lt hr11
          have hr8 := heap_alloc_new ww2 (.cells #[.int .u8 0, .int .u8 0, .int .u8 0, .int .u8 0, .int .u8 0, .int .u8 0, .int .u8 0, .int .u8 0, .int .u8 0, .int .u8 0, .int .u8 0, .int .u8 0, .int .u16 0, .slice none 0 0] 27)
          have hw8 := hHeld.size
          have hr10 := old_alloc hr10 (.cells #[.int .u8 0, .int .u8 0, .int .u8 0, .int .u8 0, .int .u8 0, .int .u8 0, .int .u8 0, .int .u8 0, .int .u8 0, .int .u8 0, .int .u8 0, .int .u8 0, .int .u16 0, .slice none 0 0] 27)
          have hr11 := old_alloc hr11 (.cells #[.int .u8 0, .int .u8 0, .int .u8 0, .int .u8 0, .int .u8 0, .int .u8 0, .int .u8 0, .int .u8 0, .int .u8 0, .int .u8 0, .int .u8 0, .int .u8 0, .int .u16 0, .slice none 0 0] 27)
          refine hK.out _ _ (hHeld.alloc hHeld.size _) (fun hNew => ?_)
          clear hK K hHeld
          have hHeld := hNew
          clear hNew
          (try simp only [Act.put, List.setIfInBounds_toArray, List.set_cons_zero, List.set_cons_succ])
          generalize hgg : ww2.heap.size = g8 at hr8 hw8 hl108 hl118 ⊢
          generalize hvv : ww2.alloc (.cells #[.int .u8 0, .int .u8 0, .int .u8 0, .int .u8 0, .int .u8 0, .int .u8 0, .int .u8 0, .int .u8 0, .int .u8 0, .int .u8 0, .int .u8 0, .int .u8 0, .int .u16 0, .slice none 0 0] 27) = ww3 at hr10 hr11 hr8 hHeld ⊢
          clear hgg hvv
          refine wpAnyH_ready (rs := [9]) (by decide +kernel) (by simp) ?_
          refine AllReadyH.cons (o := ?_) (by simp only [List.getElem?_toArray, List.getElem?_cons_zero, List.getElem?_cons_succ]; rfl) (fun K hK => ?_) ?_
          · go_simp
            have hl109 := row_lt hr10
            have hl119 := row_lt hr11
            have hl89 := row_lt hr8
            have hr9 := heap_alloc_new ww3 (.cells #[.int .u8 0, .int .u8 0, .int .u8 0, .int .u8 0, .int .u8 0, .int .u8 0, .int .u8 0, .int .u8 0, .int .u8 0, .int .u8 0, .int .u8 0, .int .u8 0, .int .u16 0, .slice none 0 0] 27)
            have hw9 := hHeld.size
            have hr10 := old_alloc hr10 (.cells #[.int .u8 0, .int .u8 0, .int .u8 0, .int .u8 0, .int .u8 0, .int .u8 0, .int .u8 0, .int .u8 0, .int .u8 0, .int .u8 0, .int .u8 0, .int .u8 0, .int .u16 0, .slice none 0 0] 27)
            have hr11 := old_alloc hr11 (.cells #[.int .u8 0, .int .u8 0, .int .u8 0, .int .u8 0, .int .u8 0, .int .u8 0, .int .u8 0, .int .u8 0, .int .u8 0, .int .u8 0, .int .u8 0, .int .u8 0, .int .u16 0, .slice none 0 0] 27)
            have hr8 := old_alloc hr8 (.cells #[.int .u8 0, .int .u8 0, .int .u8 0, .int .u8 0, .int .u8 0, .int .u8 0, .int .u8 0, .int .u8 0, .int .u8 0, .int .u8 0, .int .u8 0, .int .u8 0, .int .u16 0, .slice none 0 0] 27)
            refine hK.out _ _ (hHeld.alloc hHeld.size _) (fun hNew => ?_)
            clear hK K hHeld
            have hHeld := hNew
            clear hNew
            (try simp only [Act.put, List.setIfInBounds_toArray, List.set_cons_zero, List.set_cons_succ])
            generalize hgg : ww3.heap.size = g9 at hr9 hw9 hl109 hl119 hl89 ⊢
            generalize hvv : ww3.alloc (.cells #[.int .u8 0, .int .u8 0, .int .u8 0, .int .u8 0, .int .u8 0, .int .u8 0, .int .u8 0, .int .u8 0, .int .u8 0, .int .u8 0, .int .u8 0, .int .u8 0, .int .u16 0, .slice none 0 0] 27) = ww4 at hr10 hr11 hr8 hr9 hHeld ⊢
            clear hgg hvv
            refine wpAnyH_ready (rs := [12]) (by decide +kernel) (by simp) ?_
            refine AllReadyH.cons (o := ?_) (by simp only [List.getElem?_toArray, List.getElem?_cons_zero, List.getElem?_cons_succ]; rfl) (fun K hK => ?_) AllReadyH.nil
            rw [if_pos (by rfl)]
            refine wp_store_row _ _ _ rfl g8 F1.toArray rfl rfl _ _ hr8 Hf1.out.1 Hf1.out.2.1 Hf1.out.2.2 ?_
            have hr9 := (setRow_other ww4 g8 g9 F1.toArray (Nat.ne_of_gt hl89)).trans hr9
            have hr10 := (setRow_other ww4 g8 g10 F1.toArray (Nat.ne_of_lt hl108)).trans hr10
            have hr11 := (setRow_other ww4 g8 g11 F1.toArray (Nat.ne_of_lt hl118)).trans hr11
            have hr8 := setRow_heap ww4 g8 _ F1.toArray _ _ hr8
            refine hK.out _ _ (below_setRow hHeld hw8 _) (fun hNew => ?_)
            clear hK K hHeld
            have hHeld := hNew
            clear hNew
            (try simp only [Act.put])
            generalize hvv : ww4.setRow g8 F1.toArray = xx1 at hr8 hr9 hr10 hr11 hHeld ⊢
            clear hvv
            refine wpAnyH_ready (rs := [13]) (by decide +kernel) (by simp) ?_
            refine AllReadyH.cons (o := ?_) (by simp only [List.getElem?_toArray, List.getElem?_cons_zero, List.getElem?_cons_succ]; rfl) (fun K hK => ?_) AllReadyH.nil
            rw [if_pos (by rfl)]
            refine wp_store_row _ _ _ rfl g9 F2.toArray rfl rfl _ _ hr9 Hf2.out.1 Hf2.out.2.1 Hf2.out.2.2 ?_
            have hr8 := (setRow_other xx1 g9 g8 F2.toArray (Nat.ne_of_lt hl89)).trans hr8
            have hr10 := (setRow_other xx1 g9 g10 F2.toArray (Nat.ne_of_lt hl109)).trans hr10
            have hr11 := (setRow_other xx1 g9 g11 F2.toArray (Nat.ne_of_lt hl119)).trans hr11
            have hr9 := setRow_heap xx1 g9 _ F2.toArray _ _ hr9
            refine hK.out _ _ (below_setRow hHeld hw9 _) (fun hNew => ?_)
            clear hK K hHeld
            have hHeld := hNew
            clear hNew
            (try simp only [Act.put])
            generalize hvv : xx1.setRow g9 F2.toArray = xx2 at hr8 hr9 hr10 hr11 hHeld ⊢
            clear hvv
            refine wpAnyH_ready (rs := [14]) (by decide +kernel) (by simp) ?_
            refine AllReadyH.cons (o := ?_) (by simp only [List.getElem?_toArray, List.getElem?_cons_zero, List.getElem?_cons_succ]; rfl) (fun K hK => ?_) AllReadyH.nil
            rw [if_pos (by rfl)]
            refine wp_store_row _ _ _ rfl g10 R1.toArray rfl rfl _ _ hr10 Hr1.out.1 Hr1.out.2.1 Hr1.out.2.2 ?_
            have hr8 := (setRow_other xx2 g10 g8 R1.toArray (Nat.ne_of_gt hl108)).trans hr8
            have hr9 := (setRow_other xx2 g10 g9 R1.toArray (Nat.ne_of_gt hl109)).trans hr9
            have hr11 := (setRow_other xx2 g10 g11 R1.toArray (Nat.ne_of_gt hl1011)).trans hr11
            have hr10 := setRow_heap xx2 g10 _ R1.toArray _ _ hr10
            refine hK.out _ _ (below_setRow hHeld hw10 _) (fun hNew => ?_)
            clear hK K hHeld
            have hHeld := hNew
            clear hNew
            (try simp only [Act.put])
            generalize hvv : xx2.setRow g10 R1.toArray = xx3 at hr8 hr9 hr10 hr11 hHeld ⊢
            clear hvv
            refine wpAnyH_ready (rs := [15]) (by decide +kernel) (by simp) ?_
            refine AllReadyH.cons (o := ?_) (by simp only [List.getElem?_toArray, List.getElem?_cons_zero, List.getElem?_cons_succ]; rfl) (fun K hK => ?_) AllReadyH.nil
            rw [if_pos (by rfl)]
            refine wp_store_row _ _ _ rfl g11 R2.toArray rfl rfl _ _ hr11 Hr2.out.1 Hr2.out.2.1 Hr2.out.2.2 ?_
            have hr8 := (setRow_other xx3 g11 g8 R2.toArray (Nat.ne_of_gt hl118)).trans hr8
            have hr9 := (setRow_other xx3 g11 g9 R2.toArray (Nat.ne_of_gt hl119)).trans hr9
            have hr10 := (setRow_other xx3 g11 g10 R2.toArray (Nat.ne_of_lt hl1011)).trans hr10
            have hr11 := setRow_heap xx3 g11 _ R2.toArray _ _ hr11
            refine hK.out _ _ (below_setRow hHeld hw11 _) (fun hNew => ?_)
            clear hK K hHeld
            have hHeld := hNew
            clear hNew
            (try simp only [Act.put])
            generalize hvv : xx3.setRow g11 R2.toArray = xx4 at hr8 hr9 hr10 hr11 hHeld ⊢
            clear hvv
            refine wpAnyH_done (by decide +kernel) ?_ _
            have HE : Hid (Cut1 F1 F2 R1 R2 w (.pointer (some ⟨g8, 0, none⟩)) (.pointer (some ⟨g9, 0, none⟩)) (.pointer (some ⟨g10, 0, none⟩)) (.pointer (some ⟨g11, 0, none⟩)) xx4) := ⟨g8, g9, g10, g11, rfl, rfl, rfl, rfl, hr8, hr9, hr10, hr11, HB2.out.trans (hHeld.mono HB2.out.size)⟩
            clear hr8 hr9 hr10 hr11 hHeld
            go_wp2_with fail
            go_meet
            exact HE
          exact AllReadyH.nil
        refine AllReadyH.cons (o := ?_) (by simp only [List.getElem?_toArray, List.getElem?_cons_zero, List.getElem?_cons_succ]; rfl) (fun K hK => ?_) ?_
        · go_simp
          have hl109 := row_lt hr10
          have hl119 := row_lt hr11
          have hr9 := heap_alloc_new ww2 (.cells #[.int .u8 0, .int .u8 0, .int .u8 0, .int .u8 0, .int .u8 0, .int .u8 0, .int .u8 0, .int .u8 0, .int .u8 0, .int .u8 0, .int .u8 0, .int .u8 0, .int .u16 0, .slice none 0 0] 27)
          have hw9 := hHeld.size
          have hr10 := old_alloc hr10 (.cells #[.int .u8 0, .int .u8 0, .int .u8 0, .int .u8 0, .int .u8 0, .int .u8 0, .int .u8 0, .int .u8 0, .int .u8 0, .int .u8 0, .int .u8 0, .int .u8 0, .int .u16 0, .slice none 0 0] 27)
          have hr11 := old_alloc hr11 (.cells #[.int .u8 0, .int .u8 0, .int .u8 0, .int .u8 0, .int .u8 0, .int .u8 0, .int .u8 0, .int .u8 0, .int .u8 0, .int .u8 0, .int .u8 0, .int .u8 0, .int .u16 0, .slice none 0 0] 27)
          refine hK.out _ _ (hHeld.alloc hHeld.size _) (fun hNew => ?_)
          clear hK K hHeld
          have hHeld := hNew
          clear hNew
          (try simp only [Act.put, List.setIfInBounds_toArray, List.set_cons_zero, List.set_cons_succ])
          generalize hgg : ww2.heap.size = g9 at hr9 hw9 hl109 hl119 ⊢
          generalize hvv : ww2.alloc (.cells #[.int .u8 0, .int .u8 0, .int .u8 0, .int .u8 0, .int .u8 0, .int .u8 0, .int .u8 0, .int .u8 0, .int .u8 0, .int .u8 0, .int .u8 0, .int .u8 0, .int .u16 0, .slice none 0 0] 27) = ww3 at hr10 hr11 hr9 hHeld ⊢
          clear hgg hvv
          refine wpAnyH_ready (rs := [8]) (by decide +kernel) (by simp) ?_
          refine AllReadyH.cons (o := ?_) (by simp only [List.getElem?_toArray, List.getElem?_cons_zero, List.getElem?_cons_succ]; rfl) (fun K hK => ?_) ?_
          · go_simp
            have hl108 := row_lt hr10
            have hl118 := row_lt hr11
            have hl98 := row_lt hr9
            have hr8 := heap_alloc_new ww3 (.cells #[.int .u8 0, .int .u8 0, .int .u8 0, .int .u8 0, .int .u8 0, .int .u8 0, .int .u8 0, .int .u8 0, .int .u8 0, .int .u8 0, .int .u8 0, .int .u8 0, .int .u16 0, .slice none 0 0] 27)
            have hw8 := hHeld.size
            have hr10 := old_alloc hr10 (.cells #[.int .u8 0, .int .u8 0, .int .u8 0, .int .u8 0, .int .u8 0, .int .u8 0, .int .u8 0, .int .u8 0, .int .u8 0, .int .u8 0, .int .u8 0, .int .u8 0, .int .u16 0, .slice none 0 0] 27)
            have hr11 := old_alloc hr11 (.cells #[.int .u8 0, .int .u8 0, .int .u8 0, .int .u8 0, .int .u8 0, .int .u8 0, .int .u8 0, .int .u8 0, .int .u8 0, .int .u8 0, .int .u8 0, .int .u8 0, .int .u16 0, .slice none 0 0] 27)
            have hr9 := old_alloc hr9 (.cells #[.int .u8 0, .int .u8 0, .int .u8 0, .int .u8 0, .int .u8 0, .int .u8 0, .int .u8 0, .int .u8 0, .int .u8 0, .int .u8 0, .int .u8 0, .int .u8 0, .int .u16 0, .slice none 0 0] 27)
            refine hK.out _ _ (hHeld.alloc hHeld.size _) (fun hNew => ?_)
            clear hK K hHeld
            have hHeld := hNew
            clear hNew
            (try simp only [Act.put, List.setIfInBounds_toArray, List.set_cons_zero, List.set_cons_succ])
            generalize hgg : ww3.heap.size = g8 at hr8 hw8 hl108 hl118 hl98 ⊢
            generalize hvv : ww3.alloc (.cells #[.int .u8 0, .int .u8 0, .int .u8 0, .int .u8 0, .int .u8 0, .int .u8 0, .int .u8 0, .int .u8 0, .int .u8 0, .int .u8 0, .int .u8 0, .int .u8 0, .int .u16 0, .slice none 0 0] 27) = ww4 at hr10 hr11 hr9 hr8 hHeld ⊢
            clear hgg hvv
            refine wpAnyH_ready (rs := [12]) (by decide +kernel) (by simp) ?_
            refine AllReadyH.cons (o := ?_) (by simp only [List.getElem?_toArray, List.getElem?_cons_zero, List.getElem?_cons_succ]; rfl) (fun K hK => ?_) AllReadyH.nil
            rw [if_pos (by rfl)]
            refine wp_store_row _ _ _ rfl g8 F1.toArray rfl rfl _ _ hr8 Hf1.out.1 Hf1.out.2.1 Hf1.out.2.2 ?_
            have hr9 := (setRow_other ww4 g8 g9 F1.toArray (Nat.ne_of_lt hl98)).trans hr9
            have hr10 := (setRow_other ww4 g8 g10 F1.toArray (Nat.ne_of_lt hl108)).trans hr10
            have hr11 := (setRow_other ww4 g8 g11 F1.toArray (Nat.ne_of_lt hl118)).trans hr11
            have hr8 := setRow_heap ww4 g8 _ F1.toArray _ _ hr8
            refine hK.out _ _ (below_setRow hHeld hw8 _) (fun hNew => ?_)
            clear hK K hHeld
            have hHeld := hNew
            clear hNew
            (try simp only [Act.put])
            generalize hvv : ww4.setRow g8 F1.toArray = xx1 at hr8 hr9 hr10 hr11 hHeld ⊢
            clear hvv
            refine wpAnyH_ready (rs := [13]) (by decide +kernel) (by simp) ?_
            refine AllReadyH.cons (o := ?_) (by simp only [List.getElem?_toArray, List.getElem?_cons_zero, List.getElem?_cons_succ]; rfl) (fun K hK => ?_) AllReadyH.nil
            rw [if_pos (by rfl)]
            refine wp_store_row _ _ _ rfl g9 F2.toArray rfl rfl _ _ hr9 Hf2.out.1 Hf2.out.2.1 Hf2.out.2.2 ?_
            have hr8 := (setRow_other xx1 g9 g8 F2.toArray (Nat.ne_of_gt hl98)).trans hr8
            have hr10 := (setRow_other xx1 g9 g10 F2.toArray (Nat.ne_of_lt hl109)).trans hr10
            have hr11 := (setRow_other xx1 g9 g11 F2.toArray (Nat.ne_of_lt hl119)).trans hr11
            have hr9 := setRow_heap xx1 g9 _ F2.toArray _ _ hr9
            refine hK.out _ _ (below_setRow hHeld hw9 _) (fun hNew => ?_)
            clear hK K hHeld
            have hHeld := hNew
            clear hNew
            (try simp only [Act.put])
            generalize hvv : xx1.setRow g9 F2.toArray = xx2 at hr8 hr9 hr10 hr11 hHeld ⊢
            clear hvv
            refine wpAnyH_ready (rs := [14]) (by decide +kernel) (by simp) ?_
            refine AllReadyH.cons (o := ?_) (by simp only [List.getElem?_toArray, List.getElem?_cons_zero, List.getElem?_cons_succ]; rfl) (fun K hK => ?_) AllReadyH.nil
            rw [if_pos (by rfl)]
            refine wp_store_row _ _ _ rfl g10 R1.toArray rfl rfl _ _ hr10 Hr1.out.1 Hr1.out.2.1 Hr1.out.2.2 ?_
            have hr8 := (setRow_other xx2 g10 g8 R1.toArray (Nat.ne_of_gt hl108)).trans hr8
            have hr9 := (setRow_other xx2 g10 g9 R1.toArray (Nat.ne_of_gt hl109)).trans hr9
            have hr11 := (setRow_other xx2 g10 g11 R1.toArray (Nat.ne_of_gt hl1011)).trans hr11
            have hr10 := setRow_heap xx2 g10 _ R1.toArray _ _ hr10
            refine hK.out _ _ (below_setRow hHeld hw10 _) (fun hNew => ?_)
            clear hK K hHeld
            have hHeld := hNew
            clear hNew
            (try simp only [Act.put])
            generalize hvv : xx2.setRow g10 R1.toArray = xx3 at hr8 hr9 hr10 hr11 hHeld ⊢
            clear hvv
            refine wpAnyH_ready (rs := [15]) (by decide +kernel) (by simp) ?_
            refine AllReadyH.cons (o := ?_) (by simp only [List.getElem?_toArray, List.getElem?_cons_zero, List.getElem?_cons_succ]; rfl) (fun K hK => ?_) AllReadyH.nil
            rw [if_pos (by rfl)]
            refine wp_store_row _ _ _ rfl g11 R2.toArray rfl rfl _ _ hr11 Hr2.out.1 Hr2.out.2.1 Hr2.out.2.2 ?_
            have hr8 := (setRow_other xx3 g11 g8 R2.toArray (Nat.ne_of_gt hl118)).trans hr8
            have hr9 := (setRow_other xx3 g11 g9 R2.toArray (Nat.ne_of_gt hl119)).trans hr9
            have hr10 := (setRow_other xx3 g11 g10 R2.toArray (Nat.ne_of_lt hl1011)).trans hr10
            have hr11 := setRow_heap xx3 g11 _ R2.toArray _ _ hr11
            refine hK.out _ _ (below_setRow hHeld hw11 _) (fun hNew => ?_)
            clear hK K hHeld
            have hHeld := hNew
            clear hNew
            (try simp only [Act.put])
            generalize hvv : xx3.setRow g11 R2.toArray = xx4 at hr8 hr9 hr10 hr11 hHeld ⊢
            clear hvv
            refine wpAnyH_done (by decide +kernel) ?_ _
            have HE : Hid (Cut1 F1 F2 R1 R2 w (.pointer (some ⟨g8, 0, none⟩)) (.pointer (some ⟨g9, 0, none⟩)) (.pointer (some ⟨g10, 0, none⟩)) (.pointer (some ⟨g11, 0, none⟩)) xx4) := ⟨g8, g9, g10, g11, rfl, rfl, rfl, rfl, hr8, hr9, hr10, hr11, HB2.out.trans (hHeld.mono HB2.out.size)⟩
            clear hr8 hr9 hr10 hr11 hHeld
            go_wp2_with fail
            go_meet
            exact HE
          exact AllReadyH.nil
        exact AllReadyH.nil
      exact AllReadyH.nil
    refine AllReadyH.cons (o := ?_) (by simp only [List.getElem?_toArray, List.getElem?_cons_zero, List.getElem?_cons_succ]; rfl) (fun K hK => ?_) ?_
    · go_simp
      have hr11 := heap_alloc_new wd (.cells #[.int .i64 0, .int .u8 0, .int .u8 0, .int .u8 0, .int .u8 0, .int .u8 0, .int .u8 0, .int .u8 0, .int .u8 0, .int .u8 0, .int .u8 0, .int .u8 0, .int .u8 0, .int .u8 0, .int .u8 0, .int .u8 0, .int .u8 0, .int .u8 0, .int .u8 0, .int .u8 0, .int .u8 0] 44)
      have hw11 := hHeld.size
      refine hK.out _ _ (hHeld.alloc hHeld.size _) (fun hNew => ?_)
      clear hK K hHeld
      have hHeld := hNew
      clear hNew
      (try simp only [Act.put, List.setIfInBounds_toArray, List.set_cons_zero, List.set_cons_succ])
      generalize hgg : wd.heap.size = g11 at hr11 hw11  ⊢
      generalize hvv : wd.alloc (.cells #[.int .i64 0, .int .u8 0, .int .u8 0, .int .u8 0, .int .u8 0, .int .u8 0, .int .u8 0, .int .u8 0, .int .u8 0, .int .u8 0, .int .u8 0, .int .u8 0, .int .u8 0, .int .u8 0, .int .u8 0, .int .u8 0, .int .u8 0, .int .u8 0, .int .u8 0, .int .u8 0, .int .u8 0] 44) = ww1 at hr11 hHeld ⊢
      clear hgg hvv
      refine wpAnyH_ready (rs := [8, 9, 10]) (by decide +kernel) (by simp) ?_
      refine AllReadyH.cons (o := ?_) (by simp only [List.getElem?_toArray, List.getElem?_cons_zero, List.getElem?_cons_succ]; rfl) (fun K hK => ?_) ?_
      · go_simp
        have hl118 := row_lt hr11
        have hr8 := heap_alloc_new ww1 (.cells #[.int .u8 0, .int .u8 0, .int .u8 0, .int .u8 0, .int .u8 0, .int .u8 0, .int .u8 0, .int .u8 0, .int .u8 0, .int .u8 0, .int .u8 0, .int .u8 0, .int .u16 0, .slice none 0 0] 27)
        have hw8 := hHeld.size
        have hr11 := old_alloc hr11 (.cells #[.int .u8 0, .int .u8 0, .int .u8 0, .int .u8 0, .int .u8 0, .int .u8 0, .int .u8 0, .int .u8 0, .int .u8 0, .int .u8 0, .int .u8 0, .int .u8 0, .int .u16 0, .slice none 0 0] 27)
        refine hK.out _ _ (hHeld.alloc hHeld.size _) (fun hNew => ?_)
        clear hK K hHeld
        have hHeld := hNew
        clear hNew
        (try simp only [Act.put, List.setIfInBounds_toArray, List.set_cons_zero, List.set_cons_succ])
        generalize hgg : ww1.heap.size = g8 at hr8 hw8 hl118 ⊢
        generalize hvv : ww1.alloc (.cells #[.int .u8 0, .int .u8 0, .int .u8 0, .int .u8 0, .int .u8 0, .int .u8 0, .int .u8 0, .int .u8 0, .int .u8 0, .int .u8 0, .int .u8 0, .int .u8 0, .int .u16 0, .slice none 0 0] 27) = ww2 at hr11 hr8 hHeld ⊢
        clear hgg hvv
        refine wpAnyH_ready (rs := [9, 10]) (by decide +kernel) (by simp) ?_
        refine AllReadyH.cons (o := ?_) (by simp only [List.getElem?_toArray, List.getElem?_cons_zero, List.getElem?_cons_succ]; rfl) (fun K hK => ?_) ?_
        · go_simp
          have hl119 := row_lt hr11
          have hl89 := row_lt hr8
          have hr9 := heap_alloc_new ww2 (.cells #[.int .u8 0, .int .u8 0, .int .u8 0, .int .u8 0, .int .u8 0, .int .u8 0, .int .u8 0, .int .u8 0, .int .u8 0, .int .u8 0, .int .u8 0, .int .u8 0, .int .u16 0, .slice none 0 0] 27)
          have hw9 := hHeld.size
          have hr11 := old_alloc hr11 (.cells #[.int .u8 0, .int .u8 0, .int .u8 0, .int .u8 0, .int .u8 0, .int .u8 0, .int .u8 0, .int .u8 0, .int .u8 0, .int .u8 0, .int .u8 0, .int .u8 0, .int .u16 0, .slice none 0 0] 27)
          have hr8 := old_alloc hr8 (.cells #[.int .u8 0, .int .u8 0, .int .u8 0, .int .u8 0, .int .u8 0, .int .u8 0, .int .u8 0, .int .u8 0, .int .u8 0, .int .u8 0, .int .u8 0, .int .u8 0, .int .u16 0, .slice none 0 0] 27)
          refine hK.out _ _ (hHeld.alloc hHeld.size _) (fun hNew => ?_)
          clear hK K hHeld
          have hHeld := hNew
          clear hNew
          (try simp only [Act.put, List.setIfInBounds_toArray, List.set_cons_zero, List.set_cons_succ])
          generalize hgg : ww2.heap.size = g9 at hr9 hw9 hl119 hl89 ⊢
          generalize hvv : ww2.alloc (.cells #[.int .u8 0, .int .u8 0, .int .u8 0, .int .u8 0, .int .u8 0, .int .u8 0, .int .u8 0, .int .u8 0, .int .u8 0, .int .u8 0, .int .u8 0, .int .u8 0, .int .u16 0, .slice none 0 0] 27) = ww3 at hr11 hr8 hr9 hHeld ⊢
          clear hgg hvv
          refine wpAnyH_ready (rs := [10]) (by decide +kernel) (by simp) ?_
          refine AllReadyH.cons (o := ?_) (by simp only [List.getElem?_toArray, List.getElem?_cons_zero, List.getElem?_cons_succ]; rfl) (fun K hK => ?_) ?_
          · go_simp
            have hl1110 := row_lt hr11
            have hl810 := row_lt hr8
            have hl910 := row_lt hr9
            have hr10 := heap_alloc_new ww3 (.cells #[.int .i64 0, .int .u8 0, .int .u8 0, .int .u8 0, .int .u8 0, .int .u8 0, .int .u8 0, .int .u8 0, .int .u8 0, .int .u8 0, .int .u8 0, .int .u8 0, .int .u8 0, .int .u8 0, .int .u8 0, .int .u8 0, .int .u8 0, .int .u8 0, .int .u8 0, .int .u8 0, .int .u8 0] 44)
            have hw10 := hHeld.size
            have hr11 := old_alloc hr11 (.cells #[.int .i64 0, .int .u8 0, .int .u8 0, .int .u8 0, .int .u8 0, .int .u8 0, .int .u8 0, .int .u8 0, .int .u8 0, .int .u8 0, .int .u8 0, .int .u8 0, .int .u8 0, .int .u8 0, .int .u8 0, .int .u8 0, .int .u8 0, .int .u8 0, .int .u8 0, .int .u8 0, .int .u8 0] 44)
            have hr8 := old_alloc hr8 (.cells #[.int .i64 0, .int .u8 0, .int .u8 0, .int .u8 0, .int .u8 0, .int .u8 0, .int .u8 0, .int .u8 0, .int .u8 0, .int .u8 0, .int .u8 0, .int .u8 0, .int .u8 0, .int .u8 0, .int .u8 0, .int .u8 0, .int .u8 0, .int .u8 0, .int .u8 0, .int .u8 0, .int .u8 0] 44)
            have hr9 := old_alloc hr9 (.cells #[.int .i64 0, .int .u8 0, .int .u8 0, .int .u8 0, .int .u8 0, .int .u8 0, .int .u8 0, .int .u8 0, .int .u8 0, .int .u8 0, .int .u8 0, .int .u8 0, .int .u8 0, .int .u8 0, .int .u8 0, .int .u8 0, .int .u8 0, .int .u8 0, .int .u8 0, .int .u8 0, .int .u8 0] 44)
            refine hK.out _ _ (hHeld.alloc hHeld.size _) (fun hNew => ?_)
            clear hK K hHeld
            have hHeld := hNew
            clear hNew
            (try simp only [Act.put, List.setIfInBounds_toArray, List.set_cons_zero, List.set_cons_succ])
            generalize hgg : ww3.heap.size = g10 at hr10 hw10 hl1110 hl810 hl910 ⊢
            generalize hvv : ww3.alloc (.cells #[.int .i64 0, .int .u8 0, .int .u8 0, .int .u8 0, .int .u8 0, .int .u8 0, .int .u8 0, .int .u8 0, .int .u8 0, .int .u8 0, .int .u8 0, .int .u8 0, .int .u8 0, .int .u8 0, .int .u8 0, .int .u8 0, .int .u8 0, .int .u8 0, .int .u8 0, .int .u8 0, .int .u8 0] 44) = ww4 at hr11 hr8 hr9 hr10 hHeld ⊢
            clear hgg hvv
            refine wpAnyH_ready (rs := [12]) (by decide +kernel) (by simp) ?_
            refine AllReadyH.cons (o := ?_) (by simp only [List.getElem?_toArray, List.getElem?_cons_zero, List.getElem?_cons_succ]; rfl) (fun K hK => ?_) AllReadyH.nil
            rw [if_pos (by rfl)]
            refine wp_store_row _ _ _ rfl g8 F1.toArray rfl rfl _ _ hr8 Hf1.out.1 Hf1.out.2.1 Hf1.out.2.2 ?_
            have hr9 := (setRow_other ww4 g8 g9 F1.toArray (Nat.ne_of_gt hl89)).trans hr9
            have hr10 := (setRow_other ww4 g8 g10 F1.toArray (Nat.ne_of_gt hl810)).trans hr10
            have hr11 := (setRow_other ww4 g8 g11 F1.toArray (Nat.ne_of_lt hl118)).trans hr11
            have hr8 := setRow_heap ww4 g8 _ F1.toArray _ _ hr8
            refine hK.out _ _ (below_setRow hHeld hw8 _) (fun hNew => ?_)
            clear hK K hHeld
            have hHeld := hNew
            clear hNew
            (try simp only [Act.put])
            generalize hvv : ww4.setRow g8 F1.toArray = xx1 at hr8 hr9 hr10 hr11 hHeld ⊢
            clear hvv
            refine wpAnyH_ready (rs := [13]) (by decide +kernel) (by simp) ?_
            refine AllReadyH.cons (o := ?_) (by simp only [List.getElem?_toArray, List.getElem?_cons_zero, List.getElem?_cons_succ]; rfl) (fun K hK => ?_) AllReadyH.nil
            rw [if_pos (by rfl)]
            refine wp_store_row _ _ _ rfl g9 F2.toArray rfl rfl _ _ hr9 Hf2.out.1 Hf2.out.2.1 Hf2.out.2.2 ?_
            have hr8 := (setRow_other xx1 g9 g8 F2.toArray (Nat.ne_of_lt hl89)).trans hr8
            have hr10 := (setRow_other xx1 g9 g10 F2.toArray (Nat.ne_of_gt hl910)).trans hr10
            have hr11 := (setRow_other xx1 g9 g11 F2.toArray (Nat.ne_of_lt hl119)).trans hr11
            have hr9 := setRow_heap xx1 g9 _ F2.toArray _ _ hr9
            refine hK.out _ _ (below_setRow hHeld hw9 _) (fun hNew => ?_)
            clear hK K hHeld
            have hHeld := hNew
            clear hNew
            (try simp only [Act.put])
            generalize hvv : xx1.setRow g9 F2.toArray = xx2 at hr8 hr9 hr10 hr11 hHeld ⊢
            clear hvv
            refine wpAnyH_ready (rs := [14]) (by decide +kernel) (by simp) ?_
            refine AllReadyH.cons (o := ?_) (by simp only [List.getElem?_toArray, List.getElem?_cons_zero, List.getElem?_cons_succ]; rfl) (fun K hK => ?_) AllReadyH.nil
            rw [if_pos (by rfl)]
            refine wp_store_row _ _ _ rfl g10 R1.toArray rfl rfl _ _ hr10 Hr1.out.1 Hr1.out.2.1 Hr1.out.2.2 ?_
            have hr8 := (setRow_other xx2 g10 g8 R1.toArray (Nat.ne_of_lt hl810)).trans hr8
            have hr9 := (setRow_other xx2 g10 g9 R1.toArray (Nat.ne_of_lt hl910)).trans hr9
            have hr11 := (setRow_other xx2 g10 g11 R1.toArray (Nat.ne_of_lt hl1110)).trans hr11
            have hr10 := setRow_heap xx2 g10 _ R1.toArray _ _ hr10
            refine hK.out _ _ (below_setRow hHeld hw10 _) (fun hNew => ?_)
            clear hK K hHeld
            have hHeld := hNew
            clear hNew
            (try simp only [Act.put])
            generalize hvv : xx2.setRow g10 R1.toArray = xx3 at hr8 hr9 hr10 hr11 hHeld ⊢
            clear hvv
            refine wpAnyH_ready (rs := [15]) (by decide +kernel) (by simp) ?_
            refine AllReadyH.cons (o := ?_) (by simp only [List.getElem?_toArray, List.getElem?_cons_zero, List.getElem?_cons_succ]; rfl) (fun K hK => ?_) AllReadyH.nil
            rw [if_pos (by rfl)]
            refine wp_store_row _ _ _ rfl g11 R2.toArray rfl rfl _ _ hr11 Hr2.out.1 Hr2.out.2.1 Hr2.out.2.2 ?_
            have hr8 := (setRow_other xx3 g11 g8 R2.toArray (Nat.ne_of_gt hl118)).trans hr8
            have hr9 := (setRow_other xx3 g11 g9 R2.toArray (Nat.ne_of_gt hl119)).trans hr9
            have hr10 := (setRow_other xx3 g11 g10 R2.toArray (Nat.ne_of_gt hl1110)).trans hr10
            have hr11 := setRow_heap xx3 g11 _ R2.toArray _ _ hr11
            refine hK.out _ _ (below_setRow hHeld hw11 _) (fun hNew => ?_)
            clear hK K hHeld
            have hHeld := hNew
            clear hNew
            (try simp only [Act.put])
            generalize hvv : xx3.setRow g11 R2.toArray = xx4 at hr8 hr9 hr10 hr11 hHeld ⊢
            clear hvv
            refine wpAnyH_done (by decide +kernel) ?_ _
            have HE : Hid (Cut1 F1 F2 R1 R2 w (.pointer (some ⟨g8, 0, none⟩)) (.pointer (some ⟨g9, 0, none⟩)) (.pointer (some ⟨g10, 0, none⟩)) (.pointer (some ⟨g11, 0, none⟩)) xx4) := ⟨g8, g9, g10, g11, rfl, rfl, rfl, rfl, hr8, hr9, hr10, hr11, HB2.out.trans (hHeld.mono HB2.out.size)⟩
            clear hr8 hr9 hr10 hr11 hHeld
            go_wp2_with fail
            go_meet
            exact HE
          exact AllReadyH.nil
        refine AllReadyH.cons (o := ?_) (by simp only [List.getElem?_toArray, List.getElem?_cons_zero, List.getElem?_cons_succ]; rfl) (fun K hK => ?_) ?_
        · go_simp
          have hl1110 := row_lt hr11
          have hl810 := row_lt hr8
          have hr10 := heap_alloc_new ww2 (.cells #[.int .i64 0, .int .u8 0, .int .u8 0, .int .u8 0, .int .u8 0, .int .u8 0, .int .u8 0, .int .u8 0, .int .u8 0, .int .u8 0, .int .u8 0, .int .u8 0, .int .u8 0, .int .u8 0, .int .u8 0, .int .u8 0, .int .u8 0, .int .u8 0, .int .u8 0, .int .u8 0, .int .u8 0] 44)
          have hw10 := hHeld.size
          have hr11 := old_alloc hr11 (.cells #[.int .i64 0, .int .u8 0, .int .u8 0, .int .u8 0, .int .u8 0, .int .u8 0, .int .u8 0, .int .u8 0, .int .u8 0, .int .u8 0, .int .u8 0, .int .u8 0, .int .u8 0, .int .u8 0, .int .u8 0, .int .u8 0, .int .u8 0, .int .u8 0, .int .u8 0, .int .u8 0, .int .u8 0] 44)
          have hr8 := old_alloc hr8 (.cells #[.int .i64 0, .int .u8 0, .int .u8 0, .int .u8 0, .int .u8 0, .int .u8 0, .int .u8 0, .int .u8 0, .int .u8 0, .int .u8 0, .int .u8 0, .int .u8 0, .int .u8 0, .int .u8 0, .int .u8 0, .int .u8 0, .int .u8 0, .int .u8 0, .int .u8 0, .int .u8 0, .int .u8 0] 44)
          refine hK.out _ _ (hHeld.alloc hHeld.size _) (fun hNew => ?_)
          clear hK K hHeld
          have hHeld := hNew
          clear hNew
          (try simp only [Act.put, List.setIfInBounds_toArray, List.set_cons_zero, List.set_cons_succ])
          generalize hgg : ww2.heap.size = g10 at hr10 hw10 hl1110 hl810 ⊢
          generalize hvv : ww2.alloc (.cells #[.int .i64 0, .int .u8 0, .int .u8 0, .int .u8 0, .int .u8 0, .int .u8 0, .int .u8 0, .int .u8 0, .int .u8 0, .int .u8 0, .int .u8 0, .int .u8 0, .int .u8 0, .int .u8 0, .int .u8 0, .int .u8 0, .int .u8 0, .int .u8 0, .int .u8 0, .int .u8 0, .int .u8 0] 44) = ww3 at hr11 hr8 hr10 hHeld ⊢
          clear hgg hvv
          refine wpAnyH_ready (rs := [9]) (by decide +kernel) (by simp) ?_
          refine AllReadyH.cons (o := ?_) (by simp only [List.getElem?_toArray, List.getElem?_cons_zero, List.getElem?_cons_succ]; rfl) (fun K hK => ?_) ?_
          · go_simp
            have hl119 := row_lt hr11
            have hl89 := row_lt hr8
            have hl109 := row_lt hr10
            have hr9 := heap_alloc_new ww3 (.cells #[.int .u8 0, .int .u8 0, .int .u8 0, .int .u8 0, .int .u8 0, .int .u8 0, .int .u8 0, .int .u8 0, .int .u8 0, .int .u8 0, .int .u8 0, .int .u8 0, .int .u16 0, .slice none 0 0] 27)
            have hw9 := hHeld.size
            have hr11 := old_alloc hr11 (.cells #[.int .u8 0, .int .u8 0, .int .u8 0, .int .u8 0, .int .u8 0, .int .u8 0, .int .u8 0, .int .u8 0, .int .u8 0, .int .u8 0, .int .u8 0, .int .u8 0, .int .u16 0, .slice none 0 0] 27)
            have hr8 := old_alloc hr8 (.cells #[.int .u8 0, .int .u8 0, .int .u8 0, .int .u8 0, .int .u8 0, .int .u8 0, .int .u8 0, .int .u8 0, .int .u8 0, .int .u8 0, .int .u8 0, .int .u8 0, .int .u16 0, .slice none 0 0] 27)
            have hr10 := old_alloc hr10 (.cells #[.int .u8 0, .int .u8 0, .int .u8 0, .int .u8 0, .int .u8 0, .int .u8 0, .int .u8 0, .int .u8 0, .int .u8 0, .int .u8 0, .int .u8 0, .int .u8 0, .int .u16 0, .slice none 0 0] 27)
            refine hK.out _ _ (hHeld.alloc hHeld.size _) (fun hNew => ?_)
            clear hK K hHeld
            have hHeld := hNew
            clear hNew
            (try simp only [Act.put, List.setIfInBounds_toArray, List.set_cons_zero, List.set_cons_succ])
            generalize hgg : ww3.heap.size = g9 at hr9 hw9 hl119 hl89 hl109 ⊢
            generalize hvv : ww3.alloc (.cells #[.int .u8 0, .int .u8 0, .int .u8 0, .int .u8 0, .int .u8 0, .int .u8 0, .int .u8 0, .int .u8 0, .int .u8 0, .int .u8 0, .int .u8 0, .int .u8 0, .int .u16 0, .slice none 0 0] 27) = ww4 at hr11 hr8 hr10 hr9 hHeld ⊢
            clear hgg hvv
            refine wpAnyH_ready (rs := [12]) (by decide +kernel) (by simp) ?_
            refine AllReadyH.cons (o := ?_) (by simp only [List.getElem?_toArray, List.getElem?_cons_zero, List.getElem?_cons_succ]; rfl) (fun K hK => ?_) AllReadyH.nil
            rw [if_pos (by rfl)]
            refine wp_store_row _ _ _ rfl g8 F1.toArray rfl rfl _ _ hr8 Hf1.out.1 Hf1.out.2.1 Hf1.out.2.2 ?_
            have hr9 := (setRow_other ww4 g8 g9 F1.toArray (Nat.ne_of_gt hl89)).trans hr9
            have hr10 := (setRow_other ww4 g8 g10 F1.toArray (Nat.ne_of_gt hl810)).trans hr10
            have hr11 := (setRow_other ww4 g8 g11 F1.toArray (Nat.ne_of_lt hl118)).trans hr11
            have hr8 := setRow_heap ww4 g8 _ F1.toArray _ _ hr8
            refine hK.out _ _ (below_setRow hHeld hw8 _) (fun hNew => ?_)
            clear hK K hHeld
            have hHeld := hNew
            clear hNew
            (try simp only [Act.put])
            generalize hvv : ww4.setRow g8 F1.toArray = xx1 at hr8 hr9 hr10 hr11 hHeld ⊢
            clear hvv
            refine wpAnyH_ready (rs := [13]) (by decide +kernel) (by simp) ?_
            refine AllReadyH.cons (o := ?_) (by simp only [List.getElem?_toArray, List.getElem?_cons_zero, List.getElem?_cons_succ]; rfl) (fun K hK => ?_) AllReadyH.nil
            rw [if_pos (by rfl)]
            refine wp_store_row _ _ _ rfl g9 F2.toArray rfl rfl _ _ hr9 Hf2.out.1 Hf2.out.2.1 Hf2.out.2.2 ?_
            have hr8 := (setRow_other xx1 g9 g8 F2.toArray (Nat.ne_of_lt hl89)).trans hr8
            have hr10 := (setRow_other xx1 g9 g10 F2.toArray (Nat.ne_of_lt hl109)).trans hr10
            have hr11 := (setRow_other xx1 g9 g11 F2.toArray (Nat.ne_of_lt hl119)).trans hr11
            have hr9 := setRow_heap xx1 g9 _ F2.toArray _ _ hr9
            refine hK.out _ _ (below_setRow hHeld hw9 _) (fun hNew => ?_)
            clear hK K hHeld
            have hHeld := hNew
            clear hNew
            (try simp only [Act.put])
            generalize hvv : xx1.setRow g9 F2.toArray = xx2 at hr8 hr9 hr10 hr11 hHeld ⊢
            clear hvv
            refine wpAnyH_ready (rs := [14]) (by decide +kernel) (by simp) ?_
            refine AllReadyH.cons (o := ?_) (by simp only [List.getElem?_toArray, List.getElem?_cons_zero, List.getElem?_cons_succ]; rfl) (fun K hK => ?_) AllReadyH.nil
            rw [if_pos (by rfl)]
            refine wp_store_row _ _ _ rfl g10 R1.toArray rfl rfl _ _ hr10 Hr1.out.1 Hr1.out.2.1 Hr1.out.2.2 ?_
            have hr8 := (setRow_other xx2 g10 g8 R1.toArray (Nat.ne_of_lt hl810)).trans hr8
            have hr9 := (setRow_other xx2 g10 g9 R1.toArray (Nat.ne_of_gt hl109)).trans hr9
            have hr11 := (setRow_other xx2 g10 g11 R1.toArray (Nat.ne_of_lt hl1110)).trans hr11
            have hr10 := setRow_heap xx2 g10 _ R1.toArray _ _ hr10
            refine hK.out _ _ (below_setRow hHeld hw10 _) (fun hNew => ?_)
            clear hK K hHeld
            have hHeld := hNew
            clear hNew
            (try simp only [Act.put])
            generalize hvv : xx2.setRow g10 R1.toArray = xx3 at hr8 hr9 hr10 hr11 hHeld ⊢
            clear hvv
            refine wpAnyH_ready (rs := [15]) (by decide +kernel) (by simp) ?_
            refine AllReadyH.cons (o := ?_) (by simp only [List.getElem?_toArray, List.getElem?_cons_zero, List.getElem?_cons_succ]; rfl) (fun K hK => ?_) AllReadyH.nil
            rw [if_pos (by rfl)]
            refine wp_store_row _ _ _ rfl g11 R2.toArray rfl rfl _ _ hr11 Hr2.out.1 Hr2.out.2.1 Hr2.out.2.2 ?_
            have hr8 := (setRow_other xx3 g11 g8 R2.toArray (Nat.ne_of_gt hl118)).trans hr8
            have hr9 := (setRow_other xx3 g11 g9 R2.toArray (Nat.ne_of_gt hl119)).trans hr9
            have hr10 := (setRow_other xx3 g11 g10 R2.toArray (Nat.ne_of_gt hl1110)).trans hr10
            have hr11 := setRow_heap xx3 g11 _ R2.toArray _ _ hr11
            refine hK.out _ _ (below_setRow hHeld hw11 _) (fun hNew => ?_)
            clear hK K hHeld
            have hHeld := hNew
            clear hNew
            (try simp only [Act.put])
            generalize hvv : xx3.setRow g11 R2.toArray = xx4 at hr8 hr9 hr10 hr11 hHeld ⊢
            clear hvv
            refine wpAnyH_done (by decide +kernel) ?_ _
            have HE : Hid (Cut1 F1 F2 R1 R2 w (.pointer (some ⟨g8, 0, none⟩)) (.pointer (some ⟨g9, 0, none⟩)) (.pointer (some ⟨g10, 0, none⟩)) (.pointer (some ⟨g11, 0, none⟩)) xx4) := ⟨g8, g9, g10, g11, rfl, rfl, rfl, rfl, hr8, hr9, hr10, hr11, HB2.out.trans (hHeld.mono HB2.out.size)⟩
            clear hr8 hr9 hr10 hr11 hHeld
            go_wp2_with fail
            go_meet
            exact HE
          exact AllReadyH.nil
        exact AllReadyH.nil
      refine AllReadyH.cons (o := ?_) (by simp only [List.getElem?_toArray, List.getElem?_cons_zero, List.getElem?_cons_succ]; rfl) (fun K hK => ?_) ?_
      · go_simp
        have hl119 := row_lt hr11
        have hr9 := heap_alloc_new ww1 (.cells #[.int .u8 0, .int .u8 0, .int .u8 0, .int .u8 0, .int .u8 0, .int .u8 0, .int .u8 0, .int .u8 0, .int .u8 0, .int .u8 0, .int .u8 0, .int .u8 0, .int .u16 0, .slice none 0 0] 27)
        have hw9 := hHeld.size
        have hr11 := old_alloc hr11 (.cells #[.int .u8 0, .int .u8 0, .int .u8 0, .int .u8 0, .int .u8 0, .int .u8 0, .int .u8 0, .int .u8 0, .int .u8 0, .int .u8 0, .int .u8 0, .int .u8 0, .int .u16 0, .slice none 0 0] 27)
        refine hK.out _ _ (hHeld.alloc hHeld.size _) (fun hNew => ?_)
        clear hK K hHeld
        have hHeld := hNew
        clear hNew
        (try simp only [Act.put, List.setIfInBounds_toArray, List.set_cons_zero, List.set_cons_succ])
        generalize hgg : ww1.heap.size = g9 at hr9 hw9 hl119 ⊢
        generalize hvv : ww1.alloc (.cells #[.int .u8 0, .int .u8 0, .int .u8 0, .int .u8 0, .int .u8 0, .int .u8 0, .int .u8 0, .int .u8 0, .int .u8 0, .int .u8 0, .int .u8 0, .int .u8 0, .int .u16 0, .slice none 0 0] 27) = ww2 at hr11 hr9 hHeld ⊢
        clear hgg hvv
        refine wpAnyH_ready (rs := [8, 10]) (by decide +kernel) (by simp) ?_
        refine AllReadyH.cons (o := ?_) (by simp only [List.getElem?_toArray, List.getElem?_cons_zero, List.getElem?_cons_succ]; rfl) (fun K hK => ?_) ?_
        · go_simp
          have hl118 := row_lt hr11
          have hl98 := row_lt hr9
          have hr8 := heap_alloc_new ww2 (.cells #[.int .u8 0, .int .u8 0, .int .u8 0, .int .u8 0, .int .u8 0, .int .u8 0, .int .u8 0, .int .u8 0, .int .u8 0, .int .u8 0, .int .u8 0, .int .u8 0, .int .u16 0, .slice none 0 0] 27)
          have hw8 := hHeld.size
          have hr11 := old_alloc hr11 (.cells #[.int .u8 0, .int .u8 0, .int .u8 0, .int .u8 0, .int .u8 0, .int .u8 0, .int .u8 0, .int .u8 0, .int .u8 0, .int .u8 0, .int .u8 0, .int .u8 0, .int .u16 0, .slice none 0 0] 27)
          have hr9 := old_alloc hr9 (.cells #[.int .u8 0, .int .u8 0, .int .u8 0, .int .u8 0, .int .u8 0, .int .u8 0, .int .u8 0, .int .u8 0, .int .u8 0, .int .u8 0, .int .u8 0, .int .u8 0, .int .u16 0, .slice none 0 0] 27)
          refine hK.out _ _ (hHeld.alloc hHeld.size _) (fun hNew => ?_)
          clear hK K hHeld
          have hHeld := hNew
          clear hNew
          (try simp only [Act.put, List.setIfInBounds_toArray, List.set_cons_zero, List.set_cons_succ])
          generalize hgg : ww2.heap.size = g8 at hr8 hw8 hl118 hl98 ⊢
          generalize hvv : ww2.alloc (.cells #[.int .u8 0, .int .u8 0, .int .u8 0, .int .u8 0, .int .u8 0, .int .u8 0, .int .u8 0, .int .u8 0, .int .u8 0, .int .u8 0, .int .u8 0, .int .u8 0, .int .u16 0, .slice none 0 0] 27) = ww3 at hr11 hr9 hr8 hHeld ⊢
          clear hgg hvv
          refine wpAnyH_ready (rs := [10]) (by decide +kernel) (by simp) ?_
          refine AllReadyH.cons (o := ?_) (by simp only [List.getElem?_toArray, List.getElem?_cons_zero, List.getElem?_cons_succ]; rfl) (fun K hK => ?_) ?_
          · go_simp
            have hl1110 := row_lt hr11
            have hl910 := row_lt hr9
            have hl810 := row_lt hr8
            have hr10 := heap_alloc_new ww3 (.cells #[.int .i64 0, .int .u8 0, .int .u8 0, .int .u8 0, .int .u8 0, .int .u8 0, .int .u8 0, .int .u8 0, .int .u8 0, .int .u8 0, .int .u8 0, .int .u8 0, .int .u8 0, .int .u8 0, .int .u8 0, .int .u8 0, .int .u8 0, .int .u8 0, .int .u8 0, .int .u8 0, .int .u8 0] 44)
            have hw10 := hHeld.size
            have hr11 := old_alloc hr11 (.cells #[.int .i64 0, .int .u8 0, .int .u8 0, .int .u8 0, .int .u8 0, .int .u8 0, .int .u8 0, .int .u8 0, .int .u8 0, .int .u8 0, .int .u8 0, .int .u8 0, .int .u8 0, .int .u8 0, .int .u8 0, .int .u8 0, .int .u8 0, .int .u8 0, .int .u8 0, .int .u8 0, .int .u8 0] 44)
            have hr9 := old_alloc hr9 (.cells #[.int .i64 0, .int .u8 0, .int .u8 0, .int .u8 0, .int .u8 0, .int .u8 0, .int .u8 0, .int .u8 0, .int .u8 0, .int .u8 0, .int .u8 0, .int .u8 0, .int .u8 0, .int .u8 0, .int .u8 0, .int .u8 0, .int .u8 0, .int .u8 0, .int .u8 0, .int .u8 0, .int .u8 0] 44)
            have hr8 := old_alloc hr8 (.cells #[.int .i64 0, .int .u8 0, .int .u8 0, .int .u8 0, .int .u8 0, .int .u8 0, .int .u8 0, .int .u8 0, .int .u8 0, .int .u8 0, .int .u8 0, .int .u8 0, .int .u8 0, .int .u8 0, .int .u8 0, .int .u8 0, .int .u8 0, .int .u8 0, .int .u8 0, .int .u8 0, .int .u8 0] 44)
            refine hK.out _ _ (hHeld.alloc hHeld.size _) (fun hNew => ?_)
            clear hK K hHeld
            have hHeld := hNew
            clear hNew
            (try simp only [Act.put, List.setIfInBounds_toArray, List.set_cons_zero, List.set_cons_succ])
            generalize hgg : ww3.heap.size = g10 at hr10 hw10 hl1110 hl910 hl810 ⊢
            generalize hvv : ww3.alloc (.cells #[.int .i64 0, .int .u8 0, .int .u8 0, .int .u8 0, .int .u8 0, .int .u8 0, .int .u8 0, .int .u8 0, .int .u8 0, .int .u8 0, .int .u8 0, .int .u8 0, .int .u8 0, .int .u8 0, .int .u8 0, .int .u8 0, .int .u8 0, .int .u8 0, .int .u8 0, .int .u8 0, .int .u8 0] 44) = ww4 at hr11 hr9 hr8 hr10 hHeld ⊢
            clear hgg hvv
            refine wpAnyH_ready (rs := [12]) (by decide +kernel) (by simp) ?_
            refine AllReadyH.cons (o := ?_) (by simp only [List.getElem?_toArray, List.getElem?_cons_zero, List.getElem?_cons_succ]; rfl) (fun K hK => ?_) AllReadyH.nil
            rw [if_pos (by rfl)]
            refine wp_store_row _ _ _ rfl g8 F1.toArray rfl rfl _ _ hr8 Hf1.out.1 Hf1.out.2.1 Hf1.out.2.2 ?_
            have hr9 := (setRow_other ww4 g8 g9 F1.toArray (Nat.ne_of_lt hl98)).trans hr9
            have hr10 := (setRow_other ww4 g8 g10 F1.toArray (Nat.ne_of_gt hl810)).trans hr10
            have hr11 := (setRow_other ww4 g8 g11 F1.toArray (Nat.ne_of_lt hl118)).trans hr11
            have hr8 := setRow_heap ww4 g8 _ F1.toArray _ _ hr8
            refine hK.out _ _ (below_setRow hHeld hw8 _) (fun hNew => ?_)
            clear hK K hHeld
            have hHeld := hNew
            clear hNew
            (try simp only [Act.put])
            generalize hvv : ww4.setRow g8 F1.toArray = xx1 at hr8 hr9 hr10 hr11 hHeld ⊢
            clear hvv
            refine wpAnyH_ready (rs := [13]) (by decide +kernel) (by simp) ?_
            refine AllReadyH.cons (o := ?_) (by simp only [List.getElem?_toArray, List.getElem?_cons_zero, List.getElem?_cons_succ]; rfl) (fun K hK => ?_) AllReadyH.nil
            rw [if_pos (by rfl)]
            refine wp_store_row _ _ _ rfl g9 F2.toArray rfl rfl _ _ hr9 Hf2.out.1 Hf2.out.2.1 Hf2.out.2.2 ?_
            have hr8 := (setRow_other xx1 g9 g8 F2.toArray (Nat.ne_of_gt hl98)).trans hr8
            have hr10 := (setRow_other xx1 g9 g10 F2.toArray (Nat.ne_of_gt hl910)).trans hr10
            have hr11 := (setRow_other xx1 g9 g11 F2.toArray (Nat.ne_of_lt hl119)).trans hr11
            have hr9 := setRow_heap xx1 g9 _ F2.toArray _ _ hr9
            refine hK.out _ _ (below_setRow hHeld hw9 _) (fun hNew => ?_)
            clear hK K hHeld
            have hHeld := hNew
            clear hNew
            (try simp only [Act.put])
            generalize hvv : xx1.setRow g9 F2.toArray = xx2 at hr8 hr9 hr10 hr11 hHeld ⊢
            clear hvv
            refine wpAnyH_ready (rs := [14]) (by decide +kernel) (by simp) ?_
            refine AllReadyH.cons (o := ?_) (by simp only [List.getElem?_toArray, List.getElem?_cons_zero, List.getElem?_cons_succ]; rfl) (fun K hK => ?_) AllReadyH.nil
            rw [if_pos (by rfl)]
            refine wp_store_row _ _ _ rfl g10 R1.toArray rfl rfl _ _ hr10 Hr1.out.1 Hr1.out.2.1 Hr1.out.2.2 ?_
            have hr8 := (setRow_other xx2 g10 g8 R1.toArray (Nat.ne_of_lt hl810)).trans hr8
            have hr9 := (setRow_other xx2 g10 g9 R1.toArray (Nat.ne_of_lt hl910)).trans hr9
            have hr11 := (setRow_other xx2 g10 g11 R1.toArray (Nat.ne_of_lt hl1110)).trans hr11
            have hr10 := setRow_heap xx2 g10 _ R1.toArray _ _ hr10
            refine hK.out _ _ (below_setRow hHeld hw10 _) (fun hNew => ?_)
            clear hK K hHeld
            have hHeld := hNew
            clear hNew
            (try simp only [Act.put])
            generalize hvv : xx2.setRow g10 R1.toArray = xx3 at hr8 hr9 hr10 hr11 hHeld ⊢
            clear hvv
            refine wpAnyH_ready (rs := [15]) (by decide +kernel) (by simp) ?_
            refine AllReadyH.cons (o := ?_) (by simp only [List.getElem?_toArray, List.getElem?_cons_zero, List.getElem?_cons_succ]; rfl) (fun K hK => ?_) AllReadyH.nil
            rw [if_pos (by rfl)]
            refine wp_store_row _ _ _ rfl g11 R2.toArray rfl rfl _ _ hr11 Hr2.out.1 Hr2.out.2.1 Hr2.out.2.2 ?_
            have hr8 := (setRow_other xx3 g11 g8 R2.toArray (Nat.ne_of_gt hl118)).trans hr8
            have hr9 := (setRow_other xx3 g11 g9 R2.toArray (Nat.ne_of_gt hl119)).trans hr9
            have hr10 := (setRow_other xx3 g11 g10 R2.toArray (Nat.ne_of_gt hl1110)).trans hr10
            have hr11 := setRow_heap xx3 g11 _ R2.toArray _ _ hr11
            refine hK.out _ _ (below_setRow hHeld hw11 _) (fun hNew => ?_)
            clear hK K hHeld
            have hHeld := hNew
            clear hNew
            (try simp only [Act.put])
            generalize hvv : xx3.setRow g11 R2.toArray = xx4 at hr8 hr9 hr10 hr11 hHeld ⊢
            clear hvv
            refine wpAnyH_done (by decide +kernel) ?_ _
            have HE : Hid (Cut1 F1 F2 R1 R2 w (.pointer (some ⟨g8, 0, none⟩)) (.pointer (some ⟨g9, 0, none⟩)) (.pointer (some ⟨g10, 0, none⟩)) (.pointer (some ⟨g11, 0, none⟩)) xx4) := ⟨g8, g9, g10, g11, rfl, rfl, rfl, rfl, hr8, hr9, hr10, hr11, HB2.out.trans (hHeld.mono HB2.out.size)⟩
            clear hr8 hr9 hr10 hr11 hHeld
            go_wp2_with fail
            go_meet
            exact HE
          exact AllReadyH.nil
        refine AllReadyH.cons (o := ?_) (by simp only [List.getElem?_toArray, List.getElem?_cons_zero, List.getElem?_cons_succ]; rfl) (fun K hK => ?_) ?_
        · go_simp
          have hl1110 := row_lt hr11
          have hl910 := row_lt hr9
          have hr10 := heap_alloc_new ww2 (.cells #[.int .i64 0, .int .u8 0, .int .u8 0, .int .u8 0, .int .u8 0, .int .u8 0, .int .u8 0, .int .u8 0, .int .u8 0, .int .u8 0, .int .u8 0, .int .u8 0, .int .u8 0, .int .u8 0, .int .u8 0, .int .u8 0, .int .u8 0, .int .u8 0, .int .u8 0, .int .u8 0, .int .u8 0] 44)
          have hw10 := hHeld.size
          have hr11 := old_alloc hr11 (.cells #[.int .i64 0, .int .u8 0, .int .u8 0, .int .u8 0, .int .u8 0, .int .u8 0, .int .u8 0, .int .u8 0, .int .u8 0, .int .u8 0, .int .u8 0, .int .u8 0, .int .u8 0, .int .u8 0, .int .u8 0, .int .u8 0, .int .u8 0, .int .u8 0, .int .u8 0, .int .u8 0, .int .u8 0] 44)
          have hr9 := old_alloc hr9 (.cells #[.int .i64 0, .int .u8 0, .int .u8 0, .int .u8 0, .int .u8 0, .int .u8 0, .int .u8 0, .int .u8 0, .int .u8 0, .int .u8 0, .int .u8 0, .int .u8 0, .int .u8 0, .int .u8 0, .int .u8 0, .int .u8 0, .int .u8 0, .int .u8 0, .int .u8 0, .int .u8 0, .int .u8 0] 44)
          refine hK.out _ _ (hHeld.alloc hHeld.size _) (fun hNew => ?_)
          clear hK K hHeld
          have hHeld := hNew
          clear hNew
          (try simp only [Act.put, List.setIfInBounds_toArray, List.set_cons_zero, List.set_cons_succ])
          generalize hgg : ww2.heap.size = g10 at hr10 hw10 hl1110 hl910 ⊢
          generalize hvv : ww2.alloc (.cells #[.int .i64 0, .int .u8 0, .int .u8 0, .int .u8 0, .int .u8 0, .int .u8 0, .int .u8 0, .int .u8 0, .int .u8 0, .int .u8 0, .int .u8 0, .int .u8 0, .int .u8 0, .int .u8 0, .int .u8 0, .int .u8 0, .int .u8 0, .int .u8 0, .int .u8 0, .int .u8 0, .int .u8 0] 44) = ww3 at hr11 hr9 hr10 hHeld ⊢
          clear hgg hvv
          refine wpAnyH_ready (rs := [8]) (by decide +kernel) (by simp) ?_
          refine AllReadyH.cons (o := ?_) (by simp only [List.getElem?_toArray, List.getElem?_cons_zero, List.getElem?_cons_succ]; rfl) (fun K hK => ?_) ?_
          · go_simp
            have hl118 := row_lt hr11
            have hl98 := row_lt hr9
            have hl108 := row_lt hr10
            have hr8 := heap_alloc_new ww3 (.cells #[.int .u8 0, .int .u8 0, .int .u8 0, .int .u8 0, .int .u8 0, .int .u8 0, .int .u8 0, .int .u8 0, .int .u8 0, .int .u8 0, .int .u8 0, .int .u8 0, .int .u16 0, .slice none 0 0] 27)
            have hw8 := hHeld.size
            have hr11 := old_alloc hr11 (.cells #[.int .u8 0, .int .u8 0, .int .u8 0, .int .u8 0, .int .u8 0, .int .u8 0, .int .u8 0, .int .u8 0, .int .u8 0, .int .u8 0, .int .u8 0, .int .u8 0, .int .u16 0, .slice none 0 0] 27)
            have hr9 := old_alloc hr9 (.cells #[.int .u8 0, .int .u8 0, .int .u8 0, .int .u8 0, .int .u8 0, .int .u8 0, .int .u8 0, .int .u8 0, .int .u8 0, .int .u8 0, .int .u8 0, .int .u8 0, .int .u16 0, .slice none 0 0] 27)
            have hr10 := old_alloc hr10 (.cells #[.int .u8 0, .int .u8 0, .int .u8 0, .int .u8 0, .int .u8 0, .int .u8 0, .int .u8 0, .int .u8 0, .int .u8 0, .int .u8 0, .int .u8 0, .int .u8 0, .int .u16 0, .slice none 0 0] 27)
            refine hK.out _ _ (hHeld.alloc hHeld.size _) (fun hNew => ?_)
            clear hK K hHeld
            have hHeld := hNew
            clear hNew
            (try simp only [Act.put, List.setIfInBounds_toArray, List.set_cons_zero, List.set_cons_succ])
            generalize hgg : ww3.heap.size = g8 at hr8 hw8 hl118 hl98 hl108 ⊢
            generalize hvv : ww3.alloc (.cells #[.int .u8 0, .int .u8 0, .int .u8 0, .int .u8 0, .int .u8 0, .int .u8 0, .int .u8 0, .int .u8 0, .int .u8 0, .int .u8 0, .int .u8 0, .int .u8 0, .int .u16 0, .slice none 0 0] 27) = ww4 at hr11 hr9 hr10 hr8 hHeld ⊢
            clear hgg hvv
            refine wpAnyH_ready (rs := [12]) (by decide +kernel) (by simp) ?_
            refine AllReadyH.cons (o := ?_) (by simp only [List.getElem?_toArray, List.getElem?_cons_zero, List.getElem?_cons_succ]; rfl) (fun K hK => ?_) AllReadyH.nil
            rw [if_pos (by rfl)]
            refine wp_store_row _ _ _ rfl g8 F1.toArray rfl rfl _ _ hr8 Hf1.out.1 Hf1.out.2.1 Hf1.out.2.2 ?_
            have hr9 := (setRow_other ww4 g8 g9 F1.toArray (Nat.ne_of_lt hl98)).trans hr9
            have hr10 := (setRow_other ww4 g8 g10 F1.toArray (Nat.ne_of_lt hl108)).trans hr10
            have hr11 := (setRow_other ww4 g8 g11 F1.toArray (Nat.ne_of_lt hl118)).trans hr11
            have hr8 := setRow_heap ww4 g8 _ F1.toArray _ _ hr8
            refine hK.out _ _ (below_setRow hHeld hw8 _) (fun hNew => ?_)
            clear hK K hHeld
            have hHeld := hNew
            clear hNew
            (try simp only [Act.put])
            generalize hvv : ww4.setRow g8 F1.toArray = xx1 at hr8 hr9 hr10 hr11 hHeld ⊢
            clear hvv
            refine wpAnyH_ready (rs := [13]) (by decide +kernel) (by simp) ?_
            refine AllReadyH.cons (o := ?_) (by simp only [List.getElem?_toArray, List.getElem?_cons_zero, List.getElem?_cons_succ]; rfl) (fun K hK => ?_) AllReadyH.nil
            rw [if_pos (by rfl)]
            refine wp_store_row _ _ _ rfl g9 F2.toArray rfl rfl _ _ hr9 Hf2.out.1 Hf2.out.2.1 Hf2.out.2.2 ?_
            have hr8 := (setRow_other xx1 g9 g8 F2.toArray (Nat.ne_of_gt hl98)).trans hr8
            have hr10 := (setRow_other xx1 g9 g10 F2.toArray (Nat.ne_of_gt hl910)).trans hr10
            have hr11 := (setRow_other xx1 g9 g11 F2.toArray (Nat.ne_of_lt hl119)).trans hr11
            have hr9 := setRow_heap xx1 g9 _ F2.toArray _ _ hr9
            refine hK.out _ _ (below_setRow hHeld hw9 _) (fun hNew => ?_)
            clear hK K hHeld
            have hHeld := hNew
            clear hNew
            (try simp only [Act.put])
            generalize hvv : xx1.setRow g9 F2.toArray = xx2 at hr8 hr9 hr10 hr11 hHeld ⊢
            clear hvv
            refine wpAnyH_ready (rs := [14]) (by decide +kernel) (by simp) ?_
            refine AllReadyH.cons (o := ?_) (by simp only [List.getElem?_toArray, List.getElem?_cons_zero, List.getElem?_cons_succ]; rfl) (fun K hK => ?_) AllReadyH.nil
            rw [if_pos (by rfl)]
            refine wp_store_row _ _ _ rfl g10 R1.toArray rfl rfl _ _ hr10 Hr1.out.1 Hr1.out.2.1 Hr1.out.2.2 ?_
            have hr8 := (setRow_other xx2 g10 g8 R1.toArray (Nat.ne_of_gt hl108)).trans hr8
            have hr9 := (setRow_other xx2 g10 g9 R1.toArray (Nat.ne_of_lt hl910)).trans hr9
            have hr11 := (setRow_other xx2 g10 g11 R1.toArray (Nat.ne_of_lt hl1110)).trans hr11
            have hr10 := setRow_heap xx2 g10 _ R1.toArray _ _ hr10
            refine hK.out _ _ (below_setRow hHeld hw10 _) (fun hNew => ?_)
            clear hK K hHeld
            have hHeld := hNew
            clear hNew
            (try simp only [Act.put])
            generalize hvv : xx2.setRow g10 R1.toArray = xx3 at hr8 hr9 hr10 hr11 hHeld ⊢
            clear hvv
            refine wpAnyH_ready (rs := [15]) (by decide +kernel) (by simp) ?_
            refine AllReadyH.cons (o := ?_) (by simp only [List.getElem?_toArray, List.getElem?_cons_zero, List.getElem?_cons_succ]; rfl) (fun K hK => ?_) AllReadyH.nil
            rw [if_pos (by rfl)]
            refine wp_store_row _ _ _ rfl g11 R2.toArray rfl rfl _ _ hr11 Hr2.out.1 Hr2.out.2.1 Hr2.out.2.2 ?_
            have hr8 := (setRow_other xx3 g11 g8 R2.toArray (Nat.ne_of_gt hl118)).trans hr8
            have hr9 := (setRow_other xx3 g11 g9 R2.toArray (Nat.ne_of_gt hl119)).trans hr9
            have hr10 := (setRow_other xx3 g11 g10 R2.toArray (Nat.ne_of_gt hl1110)).trans hr10
            have hr11 := setRow_heap xx3 g11 _ R2.toArray _ _ hr11
            refine hK.out _ _ (below_setRow hHeld hw11 _) (fun hNew => ?_)
            clear hK K hHeld
            have hHeld := hNew
            clear hNew
            (try simp only [Act.put])
            generalize hvv : xx3.setRow g11 R2.toArray = xx4 at hr8 hr9 hr10 hr11 hHeld ⊢
            clear hvv
            refine wpAnyH_done (by decide +kernel) ?_ _
            have HE : Hid (Cut1 F1 F2 R1 R2 w (.pointer (some ⟨g8, 0, none⟩)) (.pointer (some ⟨g9, 0, none⟩)) (.pointer (some ⟨g10, 0, none⟩)) (.pointer (some ⟨g11, 0, none⟩)) xx4) := ⟨g8, g9, g10, g11, rfl, rfl, rfl, rfl, hr8, hr9, hr10, hr11, HB2.out.trans (hHeld.mono HB2.out.size)⟩
            clear hr8 hr9 hr10 hr11 hHeld
            go_wp2_with fail
            go_meet
            exact HE
          exact AllReadyH.nil
        exact AllReadyH.nil
      refine AllReadyH.cons (o := ?_) (by simp only [List.getElem?_toArray, List.getElem?_cons_zero, List.getElem?_cons_succ]; rfl) (fun K hK => ?_) ?_
      · go_simp
        have hl1110 := row_lt hr11
        have hr10 := heap_alloc_new ww1 (.cells #[.int .i64 0, .int .u8 0, .int .u8 0, .int .u8 0, .int .u8 0, .int .u8 0, .int .u8 0, .int .u8 0, .int .u8 0, .int .u8 0, .int .u8 0, .int .u8 0, .int .u8 0, .int .u8 0, .int .u8 0, .int .u8 0, .int .u8 0, .int .u8 0, .int .u8 0, .int .u8 0, .int .u8 0] 44)
        have hw10 := hHeld.size
        have hr11 := old_alloc hr11 (.cells #[.int .i64 0, .int .u8 0, .int .u8 0, .int .u8 0, .int .u8 0, .int .u8 0, .int .u8 0, .int .u8 0, .int .u8 0, .int .u8 0, .int .u8 0, .int .u8 0, .int .u8 0, .int .u8 0, .int .u8 0, .int .u8 0, .int .u8 0, .int .u8 0, .int .u8 0, .int .u8 0, .int .u8 0] 44)
        refine hK.out _ _ (hHeld.alloc hHeld.size _) (fun hNew => ?_)
        clear hK K hHeld
        have hHeld := hNew
        clear hNew
        (try simp only [Act.put, List.setIfInBounds_toArray, List.set_cons_zero, List.set_cons_succ])
        generalize hgg : ww1.heap.size = g10 at hr10 hw10 hl1110 ⊢
        generalize hvv : ww1.alloc (.cells #[.int .i64 0, .int .u8 0, .int .u8 0, .int .u8 0, .int .u8 0, .int .u8 0, .int .u8 0, .int .u8 0, .int .u8 0, .int .u8 0, .int .u8 0, .int .u8 0, .int .u8 0, .int .u8 0, .int .u8 0, .int .u8 0, .int .u8 0, .int .u8 0, .int .u8 0, .int .u8 0, .int .u8 0] 44) = ww2 at hr11 hr10 hHeld ⊢
        clear hgg hvv
        refine wpAnyH_ready (rs := [8, 9]) (by decide +kernel) (by simp) ?_
        refine AllReadyH.cons (o := ?_) (by simp only [List.getElem?_toArray, List.getElem?_cons_zero, List.getElem?_cons_succ]; rfl) (fun K hK => ?_) ?_
        · go_simp
          have hl118 := row_lt hr11
          have hl108 := row_lt hr10
          have hr8 := heap_alloc_new ww2 (.cells #[.int .u8 0, .int .u8 0, .int .u8 0, .int .u8 0, .int .u8 0, .int .u8 0, .int .u8 0, .int .u8 0, .int .u8 0, .int .u8 0, .int .u8 0, .int .u8 0, .int .u16 0, .slice none 0 0] 27)
          have hw8 := hHeld.size
          have hr11 := old_alloc hr11 (.cells #[.int .u8 0, .int .u8 0, .int .u8 0, .int .u8 0, .int .u8 0, .int .u8 0, .int .u8 0, .int .u8 0, .int .u8 0, .int .u8 0, .int .u8 0, .int .u8 0, .int .u16 0, .slice none 0 0] 27)
          have hr10 := old_alloc hr10 (.cells #[.int .u8 0, .int .u8 0, .int .u8 0, .int .u8 0, .int .u8 0, .int .u8 0, .int .u8 0, .int .u8 0, .int .u8 0, .int .u8 0, .int .u8 0, .int .u8 0, .int .u16 0, .slice none 0 0] 27)
          refine hK.out _ _ (hHeld.alloc hHeld.size _) (fun hNew => ?_)
          clear hK K hHeld
          have hHeld := hNew
          clear hNew
          (try simp only [Act.put, List.setIfInBounds_toArray, List.set_cons_zero, List.set_cons_succ])
          generalize hgg : ww2.heap.size = g8 at hr8 hw8 hl118 hl108 ⊢
          generalize hvv : ww2.alloc (.cells #[.int .u8 0, .int .u8 0, .int .u8 0, .int .u8 0, .int .u8 0, .int .u8 0, .int .u8 0, .int .u8 0, .int .u8 0, .int .u8 0, .int .u8 0, .int .u8 0, .int .u16 0, .slice none 0 0] 27) = ww3 at hr11 hr10 hr8 hHeld ⊢
          clear hgg hvv
          refine wpAnyH_ready (rs := [9]) (by decide +kernel) (by simp) ?_
          refine AllReadyH.cons (o := ?_) (by simp only [List.getElem?_toArray, List.getElem?_cons_zero, List.getElem?_cons_succ]; rfl) (fun K hK => ?_) ?_
          · go_simp
            have hl119 := row_lt hr11
            have hl109 := row_lt hr10
            have hl89 := row_lt hr8
            have hr9 := heap_alloc_new ww3 (.cells #[.int .u8 0, .int .u8 0, .int .u8 0, .int .u8 0, .int .u8 0, .int .u8 0, .int .u8 0, .int .u8 0, .int .u8 0, .int .u8 0, .int .u8 0, .int .u8 0, .int .u16 0, .slice none 0 0] 27)
            have hw9 := hHeld.size
            have hr11 := old_alloc hr11 (.cells #[.int .u8 0, .int .u8 0, .int .u8 0, .int .u8 0, .int .u8 0, .int .u8 0, .int .u8 0, .int .u8 0, .int .u8 0, .int .u8 0, .int .u8 0, .int .u8 0, .int .u16 0, .slice none 0 0] 27)
            have hr10 := old_alloc hr10 (.cells #[.int .u8 0, .int .u8 0, .int .u8 0, .int .u8 0, .int .u8 0, .int .u8 0, .int .u8 0, .int .u8 0, .int .u8 0, .int .u8 0, .int .u8 0, .int .u8 0, .int .u16 0, .slice none 0 0] 27)
            have hr8 := old_alloc hr8 (.cells #[.int .u8 0, .int .u8 0, .int .u8 0, .int .u8 0, .int .u8 0, .int .u8 0, .int .u8 0, .int .u8 0, .int .u8 0, .int .u8 0, .int .u8 0, .int .u8 0, .int .u16 0, .slice none 0 0] 27)
            refine hK.out _ _ (hHeld.alloc hHeld.size _) (fun hNew => ?_)
            clear hK K hHeld
            have hHeld := hNew
            clear hNew
            (try simp only [Act.put, List.setIfInBounds_toArray, List.set_cons_zero, List.set_cons_succ])
            generalize hgg : ww3.heap.size = g9 at hr9 hw9 hl119 hl109 hl89 ⊢
            generalize hvv : ww3.alloc (.cells #[.int .u8 0, .int .u8 0, .int .u8 0, .int .u8 0, .int .u8 0, .int .u8 0, .int .u8 0, .int .u8 0, .int .u8 0, .int .u8 0, .int .u8 0, .int .u8 0, .int .u16 0, .slice none 0 0] 27) = ww4 at hr11 hr10 hr8 hr9 hHeld ⊢
            clear hgg hvv
            refine wpAnyH_ready (rs := [12]) (by decide +kernel) (by simp) ?_
            refine AllReadyH.cons (o := ?_) (by simp only [List.getElem?_toArray, List.getElem?_cons_zero, List.getElem?_cons_succ]; rfl) (fun K hK => ?_) AllReadyH.nil
            rw [if_pos (by rfl)]
            refine wp_store_row _ _ _ rfl g8 F1.toArray rfl rfl _ _ hr8 Hf1.out.1 Hf1.out.2.1 Hf1.out.2.2 ?_
            have hr9 := (setRow_other ww4 g8 g9 F1.toArray (Nat.ne_of_gt hl89)).trans hr9
            have hr10 := (setRow_other ww4 g8 g10 F1.toArray (Nat.ne_of_lt hl108)).trans hr10
            have hr11 := (setRow_other ww4 g8 g11 F1.toArray (Nat.ne_of_lt hl118)).trans hr11
            have hr8 := setRow_heap ww4 g8 _ F1.toArray _ _ hr8
            refine hK.out _ _ (below_setRow hHeld hw8 _) (fun hNew => ?_)
            clear hK K hHeld
            have hHeld := hNew
            clear hNew
            (try simp only [Act.put])
            generalize hvv : ww4.setRow g8 F1.toArray = xx1 at hr8 hr9 hr10 hr11 hHeld ⊢
            clear hvv
            refine wpAnyH_ready (rs := [13]) (by decide +kernel) (by simp) ?_
            refine AllReadyH.cons (o := ?_) (by simp only [List.getElem?_toArray, List.getElem?_cons_zero, List.getElem?_cons_succ]; rfl) (fun K hK => ?_) AllReadyH.nil
            rw [if_pos (by rfl)]
            refine wp_store_row _ _ _ rfl g9 F2.toArray rfl rfl _ _ hr9 Hf2.out.1 Hf2.out.2.1 Hf2.out.2.2 ?_
            have hr8 := (setRow_other xx1 g9 g8 F2.toArray (Nat.ne_of_lt hl89)).trans hr8
            have hr10 := (setRow_other xx1 g9 g10 F2.toArray (Nat.ne_of_lt hl109)).trans hr10
            have hr11 := (setRow_other xx1 g9 g11 F2.toArray (Nat.ne_of_lt hl119)).trans hr11
            have hr9 := setRow_heap xx1 g9 _ F2.toArray _ _ hr9
            refine hK.out _ _ (below_setRow hHeld hw9 _) (fun hNew => ?_)
            clear hK K hHeld
            have hHeld := hNew
            clear hNew
            (try simp only [Act.put])
            generalize hvv : xx1.setRow g9 F2.toArray = xx2 at hr8 hr9 hr10 hr11 hHeld ⊢
            clear hvv
            refine wpAnyH_ready (rs := [14]) (by decide +kernel) (by simp) ?_
            refine AllReadyH.cons (o := ?_) (by simp only [List.getElem?_toArray, List.getElem?_cons_zero, List.getElem?_cons_succ]; rfl) (fun K hK => ?_) AllReadyH.nil
            rw [if_pos (by rfl)]
            refine wp_store_row _ _ _ rfl g10 R1.toArray rfl rfl _ _ hr10 Hr1.out.1 Hr1.out.2.1 Hr1.out.2.2 ?_
            have hr8 := (setRow_other xx2 g10 g8 R1.toArray (Nat.ne_of_gt hl108)).trans hr8
            have hr9 := (setRow_other xx2 g10 g9 R1.toArray (Nat.ne_of_gt hl109)).trans hr9
            have hr11 := (setRow_other xx2 g10 g11 R1.toArray (Nat.ne_of_lt hl1110)).trans hr11
            have hr10 := setRow_heap xx2 g10 _ R1.toArray _ _ hr10
            refine hK.out _ _ (below_setRow hHeld hw10 _) (fun hNew => ?_)
            clear hK K hHeld
            have hHeld := hNew
            clear hNew
            (try simp only [Act.put])
            generalize hvv : xx2.setRow g10 R1.toArray = xx3 at hr8 hr9 hr10 hr11 hHeld ⊢
            clear hvv
            refine wpAnyH_ready (rs := [15]) (by decide +kernel) (by simp) ?_
            refine AllReadyH.cons (o := ?_) (by simp only [List.getElem?_toArray, List.getElem?_cons_zero, List.getElem?_cons_succ]; rfl) (fun K hK => ?_) AllReadyH.nil
            rw [if_pos (by rfl)]
            refine wp_store_row _ _ _ rfl g11 R2.toArray rfl rfl _ _ hr11 Hr2.out.1 Hr2.out.2.1 Hr2.out.2.2 ?_
            have hr8 := (setRow_other xx3 g11 g8 R2.toArray (Nat.ne_of_gt hl118)).trans hr8
            have hr9 := (setRow_other xx3 g11 g9 R2.toArray (Nat.ne_of_gt hl119)).trans hr9
            have hr10 := (setRow_other xx3 g11 g10 R2.toArray (Nat.ne_of_gt hl1110)).trans hr10
            have hr11 := setRow_heap xx3 g11 _ R2.toArray _ _ hr11
            refine hK.out _ _ (below_setRow hHeld hw11 _) (fun hNew => ?_)
            clear hK K hHeld
            have hHeld := hNew
            clear hNew
            (try simp only [Act.put])
            generalize hvv : xx3.setRow g11 R2.toArray = xx4 at hr8 hr9 hr10 hr11 hHeld ⊢
            clear hvv
            refine wpAnyH_done (by decide +kernel) ?_ _
            have HE : Hid (Cut1 F1 F2 R1 R2 w (.pointer (some ⟨g8, 0, none⟩)) (.pointer (some ⟨g9, 0, none⟩)) (.pointer (some ⟨g10, 0, none⟩)) (.pointer (some ⟨g11, 0, none⟩)) xx4) := ⟨g8, g9, g10, g11, rfl, rfl, rfl, rfl, hr8, hr9, hr10, hr11, HB2.out.trans (hHeld.mono HB2.out.size)⟩
            clear hr8 hr9 hr10 hr11 hHeld
            go_wp2_with fail
            go_meet
            exact HE
          exact AllReadyH.nil
        refine AllReadyH.cons (o := ?_) (by simp only [List.getElem?_toArray, List.getElem?_cons_zero, List.getElem?_cons_succ]; rfl) (fun K hK => ?_) ?_
        · go_simp
          have hl119 := row_lt hr11
          have hl109 := row_lt hr10
          have hr9 := heap_alloc_new ww2 (.cells #[.int .u8 0, .int .u8 0, .int .u8 0, .int .u8 0, .int .u8 0, .int .u8 0, .int .u8 0, .int .u8 0, .int .u8 0, .int .u8 0, .int .u8 0, .int .u8 0, .int .u16 0, .slice none 0 0] 27)
          have hw9 := hHeld.size
          have hr11 := old_alloc hr11 (.cells #[.int .u8 0, .int .u8 0, .int .u8 0, .int .u8 0, .int .u8 0, .int .u8 0, .int .u8 0, .int .u8 0, .int .u8 0, .int .u8 0, .int .u8 0, .int .u8 0, .int .u16 0, .slice none 0 0] 27)
          have hr10 := old_alloc hr10 (.cells #[.int .u8 0, .int .u8 0, .int .u8 0, .int .u8 0, .int .u8 0, .int .u8 0, .int .u8 0, .int .u8 0, .int .u8 0, .int .u8 0, .int .u8 0, .int .u8 0, .int .u16 0, .slice none 0 0] 27)
          refine hK.out _ _ (hHeld.alloc hHeld.size _) (fun hNew => ?_)
          clear hK K hHeld
          have hHeld := hNew
          clear hNew
          (try simp only [Act.put, List.setIfInBounds_toArray, List.set_cons_zero, List.set_cons_succ])
          generalize hgg : ww2.heap.size = g9 at hr9 hw9 hl119 hl109 ⊢
          generalize hvv : ww2.alloc (.cells #[.int .u8 0, .int .u8 0, .int .u8 0, .int .u8 0, .int .u8 0, .int .u8 0, .int .u8 0, .int .u8 0, .int .u8 0, .int .u8 0, .int .u8 0, .int .u8 0, .int .u16 0, .slice none 0 0] 27) = ww3 at hr11 hr10 hr9 hHeld ⊢
          clear hgg hvv
          refine wpAnyH_ready (rs := [8]) (by decide +kernel) (by simp) ?_
          refine AllReadyH.cons (o := ?_) (by simp only [List.getElem?_toArray, List.getElem?_cons_zero, List.getElem?_cons_succ]; rfl) (fun K hK => ?_) ?_
          · go_simp
            have hl118 := row_lt hr11
            have hl108 := row_lt hr10
            have hl98 := row_lt hr9
            have hr8 := heap_alloc_new ww3 (.cells #[.int .u8 0, .int .u8 0, .int .u8 0, .int .u8 0, .int .u8 0, .int .u8 0, .int .u8 0, .int .u8 0, .int .u8 0, .int .u8 0, .int .u8 0, .int .u8 0, .int .u16 0, .slice none 0 0] 27)
            have hw8 := hHeld.size
            have hr11 := old_alloc hr11 (.cells #[.int .u8 0, .int .u8 0, .int .u8 0, .int .u8 0, .int .u8 0, .int .u8 0, .int .u8 0, .int .u8 0, .int .u8 0, .int .u8 0, .int .u8 0, .int .u8 0, .int .u16 0, .slice none 0 0] 27)
            have hr10 := old_alloc hr10 (.cells #[.int .u8 0, .int .u8 0, .int .u8 0, .int .u8 0, .int .u8 0, .int .u8 0, .int .u8 0, .int .u8 0, .int .u8 0, .int .u8 0, .int .u8 0, .int .u8 0, .int .u16 0, .slice none 0 0] 27)
            have hr9 := old_alloc hr9 (.cells #[.int .u8 0, .int .u8 0, .int .u8 0, .int .u8 0, .int .u8 0, .int .u8 0, .int .u8 0, .int .u8 0, .int .u8 0, .int .u8 0, .int .u8 0, .int .u8 0, .int .u16 0, .slice none 0 0] 27)
            refine hK.out _ _ (hHeld.alloc hHeld.size _) (fun hNew => ?_)
            clear hK K hHeld
            have hHeld := hNew
            clear hNew
            (try simp only [Act.put, List.setIfInBounds_toArray, List.set_cons_zero, List.set_cons_succ])
            generalize hgg : ww3.heap.size = g8 at hr8 hw8 hl118 hl108 hl98 ⊢
            generalize hvv : ww3.alloc (.cells #[.int .u8 0, .int .u8 0, .int .u8 0, .int .u8 0, .int .u8 0, .int .u8 0, .int .u8 0, .int .u8 0, .int .u8 0, .int .u8 0, .int .u8 0, .int .u8 0, .int .u16 0, .slice none 0 0] 27) = ww4 at hr11 hr10 hr9 hr8 hHeld ⊢
            clear hgg hvv
            refine wpAnyH_ready (rs := [12]) (by decide +kernel) (by simp) ?_
            refine AllReadyH.cons (o := ?_) (by simp only [List.getElem?_toArray, List.getElem?_cons_zero, List.getElem?_cons_succ]; rfl) (fun K hK => ?_) AllReadyH.nil
            rw [if_pos (by rfl)]
            refine wp_store_row _ _ _ rfl g8 F1.toArray rfl rfl _ _ hr8 Hf1.out.1 Hf1.out.2.1 Hf1.out.2.2 ?_
            have hr9 := (setRow_other ww4 g8 g9 F1.toArray (Nat.ne_of_lt hl98)).trans hr9
            have hr10 := (setRow_other ww4 g8 g10 F1.toArray (Nat.ne_of_lt hl108)).trans hr10
            have hr11 := (setRow_other ww4 g8 g11 F1.toArray (Nat.ne_of_lt hl118)).trans hr11
            have hr8 := setRow_heap ww4 g8 _ F1.toArray _ _ hr8
            refine hK.out _ _ (below_setRow hHeld hw8 _) (fun hNew => ?_)
            clear hK K hHeld
            have hHeld := hNew
            clear hNew
            (try simp only [Act.put])
            generalize hvv : ww4.setRow g8 F1.toArray = xx1 at hr8 hr9 hr10 hr11 hHeld ⊢
            clear hvv
            refine wpAnyH_ready (rs := [13]) (by decide +kernel) (by simp) ?_
            refine AllReadyH.cons (o := ?_) (by simp only [List.getElem?_toArray, List.getElem?_cons_zero, List.getElem?_cons_succ]; rfl) (fun K hK => ?_) AllReadyH.nil
            rw [if_pos (by rfl)]
            refine wp_store_row _ _ _ rfl g9 F2.toArray rfl rfl _ _ hr9 Hf2.out.1 Hf2.out.2.1 Hf2.out.2.2 ?_
            have hr8 := (setRow_other xx1 g9 g8 F2.toArray (Nat.ne_of_gt hl98)).trans hr8
            have hr10 := (setRow_other xx1 g9 g10 F2.toArray (Nat.ne_of_lt hl109)).trans hr10
            have hr11 := (setRow_other xx1 g9 g11 F2.toArray (Nat.ne_of_lt hl119)).trans hr11
            have hr9 := setRow_heap xx1 g9 _ F2.toArray _ _ hr9
            refine hK.out _ _ (below_setRow hHeld hw9 _) (fun hNew => ?_)
            clear hK K hHeld
            have hHeld := hNew
            clear hNew
            (try simp only [Act.put])
            generalize hvv : xx1.setRow g9 F2.toArray = xx2 at hr8 hr9 hr10 hr11 hHeld ⊢
            clear hvv
            refine wpAnyH_ready (rs := [14]) (by decide +kernel) (by simp) ?_
            refine AllReadyH.cons (o := ?_) (by simp only [List.getElem?_toArray, List.getElem?_cons_zero, List.getElem?_cons_succ]; rfl) (fun K hK => ?_) AllReadyH.nil
            rw [if_pos (by rfl)]
            refine wp_store_row _ _ _ rfl g10 R1.toArray rfl rfl _ _ hr10 Hr1.out.1 Hr1.out.2.1 Hr1.out.2.2 ?_
            have hr8 := (setRow_other xx2 g10 g8 R1.toArray (Nat.ne_of_gt hl108)).trans hr8
            have hr9 := (setRow_other xx2 g10 g9 R1.toArray (Nat.ne_of_gt hl109)).trans hr9
            have hr11 := (setRow_other xx2 g10 g11 R1.toArray (Nat.ne_of_lt hl1110)).trans hr11
            have hr10 := setRow_heap xx2 g10 _ R1.toArray _ _ hr10
            refine hK.out _ _ (below_setRow hHeld hw10 _) (fun hNew => ?_)
            clear hK K hHeld
            have hHeld := hNew
            clear hNew
            (try simp only [Act.put])
            generalize hvv : xx2.setRow g10 R1.toArray = xx3 at hr8 hr9 hr10 hr11 hHeld ⊢
            clear hvv
            refine wpAnyH_ready (rs := [15]) (by decide +kernel) (by simp) ?_
            refine AllReadyH.cons (o := ?_) (by simp only [List.getElem?_toArray, List.getElem?_cons_zero, List.getElem?_cons_succ]; rfl) (fun K hK => ?_) AllReadyH.nil
            rw [if_pos (by rfl)]
            refine wp_store_row _ _ _ rfl g11 R2.toArray rfl rfl _ _ hr11 Hr2.out.1 Hr2.out.2.1 Hr2.out.2.2 ?_
            have hr8 := (setRow_other xx3 g11 g8 R2.toArray (Nat.ne_of_gt hl118)).trans hr8
            have hr9 := (setRow_other xx3 g11 g9 R2.toArray (Nat.ne_of_gt hl119)).trans hr9
            have hr10 := (setRow_other xx3 g11 g10 R2.toArray (Nat.ne_of_gt hl1110)).trans hr10
            have hr11 := setRow_heap xx3 g11 _ R2.toArray _ _ hr11
            refine hK.out _ _ (below_setRow hHeld hw11 _) (fun hNew => ?_)
            clear hK K hHeld
            have hHeld := hNew
            clear hNew
            (try simp only [Act.put])
            generalize hvv : xx3.setRow g11 R2.toArray = xx4 at hr8 hr9 hr10 hr11 hHeld ⊢
            clear hvv
            refine wpAnyH_done (by decide +kernel) ?_ _
            have HE : Hid (Cut1 F1 F2 R1 R2 w (.pointer (some ⟨g8, 0, none⟩)) (.pointer (some ⟨g9, 0, none⟩)) (.pointer (some ⟨g10, 0, none⟩)) (.pointer (some ⟨g11, 0, none⟩)) xx4) := ⟨g8, g9, g10, g11, rfl, rfl, rfl, rfl, hr8, hr9, hr10, hr11, HB2.out.trans (hHeld.mono HB2.out.size)⟩
            clear hr8 hr9 hr10 hr11 hHeld
            go_wp2_with fail
            go_meet
            exact HE
          exact AllReadyH.nil
        exact AllReadyH.nil
      exact AllReadyH.nil
    exact AllReadyH.nil
  case rest =>
    obtain ⟨g7, g8, g9, g10, rfl, rfl, rfl, rfl, h7, h8, h9, h10, hbc⟩ := hcut
    obtain ⟨A, c, _, ha13, _, hac, ham, _⟩ := HF.out.parts
    obtain ⟨B, d, _, hb13, _, hbd, hbm, _⟩ := HG.out.parts
    obtain ⟨n, hn⟩ : ∃ n, f.b.length = n := ⟨_, rfl⟩
    obtain ⟨m, hm⟩ : ∃ m, g.b.length = m := ⟨_, rfl⟩
    rw [hn] at ha13 hac
    rw [hm] at hb13 hbd
    have hnn : n ≤ 9223372036854775807 := by unfold maxLen at ham; omega
    have hmm : m ≤ 9223372036854775807 := by unfold maxLen at hbm; omega
    have HA13 := Lib.hid ha13
    have HB13 := Lib.hid hb13
    have HN := Lib.hid hn
    have HM := Lib.hid hm
    have H7 := Lib.hid h7
    have H8 := Lib.hid h8
    have H9 := Lib.hid h9
    have H10 := Lib.hid h10
    have HBC := Lib.hid hbc
    clear h7 h8 h9 h10 hbc ha13 hb13 hac hbd ham hbm hn hm HB2 HC2 HD2 HCC HDD H14
    go_wp2_with fail
    refine (lives_any _).mono ?_
    rintro e w1 ⟨rfl, hb1⟩
    have P7 := Lib.hid ((hb1.block _ (row_lt H7.out)).trans H7.out)
    have P8 := Lib.hid ((hb1.block _ (row_lt H8.out)).trans H8.out)
    have P9 := Lib.hid ((hb1.block _ (row_lt H9.out)).trans H9.out)
    have P10 := Lib.hid ((hb1.block _ (row_lt H10.out)).trans H10.out)
    have HB1 := Lib.hid (HBC.out.trans (hb1.mono HBC.out.size))
    have c7 : w1.cell? ⟨g7, 13, none⟩ = some (.slice A n c) := (cell_of_row _ _ _ _ _ _ P7.out).trans HA13.out
    have c8 : w1.cell? ⟨g8, 13, none⟩ = some (.slice B m d) := (cell_of_row _ _ _ _ _ _ P8.out).trans HB13.out
    clear hb1 H7 H8 H9 H10 HBC
    by_cases hbig : 200 < n ∨ 200 < m
    · rcases hbig with hbig | hbig
      · go_wp2_with fail
        refine (lives_any _).mono ?_
        rintro e w2 ⟨rfl, hb2⟩
        have HB := Lib.hid (HB1.out.trans (hb2.mono HB1.out.size))
        clear hb2
        go_wp2
        go_ret
        exact ⟨rfl, HB.out⟩
      · by_cases hsm : 200 < n
        all_goals
          go_wp2_with fail
          refine (lives_any _).mono ?_
          rintro e w2 ⟨rfl, hb2⟩
          have HB := Lib.hid (HB1.out.trans (hb2.mono HB1.out.size))
          clear hb2
          go_wp2
          go_ret
          exact ⟨rfl, HB.out⟩
    · have hn2 : n ≤ 200 := by omega
      have hm2 : m ≤ 200 := by omega
      have hbx : buildS f = (f.bytes, 0) := by unfold buildS; rw [if_neg (by rw [HN.out]; omega)]
      have hby : buildS g = (g.bytes, 0) := by unfold buildS; rw [if_neg (by rw [HM.out]; omega)]
      have hlx : f.bytes.length = 14 + n := (Fr.bytes_length HF.out.ok).trans (by rw [HN.out])
      have hly : g.bytes.length = 14 + m := (Fr.bytes_length HG.out.ok).trans (by rw [HM.out])
      have HINJ : Hid (f.bytes = g.bytes → f = g) := bytes_inj HF.out.ok HG.out.ok
      obtain ⟨X, hX⟩ : ∃ X, f.bytes = X := ⟨_, rfl⟩
      obtain ⟨Y, hY⟩ : ∃ Y, g.bytes = Y := ⟨_, rfl⟩
      obtain ⟨mx, hmx⟩ : ∃ mx, 14 + n = mx := ⟨_, rfl⟩
      obtain ⟨my, hmy⟩ : ∃ my, 14 + m = my := ⟨_, rfl⟩
      rw [hX] at hbx hlx HINJ
      rw [hY] at hby hly HINJ
      rw [hmx] at hlx
      rw [hmy] at hly
      have hmx2 : 14 ≤ mx ∧ mx ≤ 214 := by omega
      have hmy2 : 14 ≤ my ∧ my ≤ 214 := by omega
      have HXB := Lib.hid hbx
      have HYB := Lib.hid hby
      have HXL := Lib.hid hlx
      have HYL := Lib.hid hly
      have HXE := Lib.hid hX
      have HYE := Lib.hid hY
      have HMX := Lib.hid (And.intro hmx2 hmy2)
      clear hbx hby hlx hly hX hY hmx hmy hbig hmx2 hmy2
      go_wp2_with (refine wpList_load_row rfl 27 _ rfl g7 rfl _ F1.toArray _ _ P7.out Try.underlying27 rfl Hf1.out.1 ?_)
      have hcl := build_any F1.toArray f w1 0 w.heap.size (HF.out.below HB1.out (Nat.le_refl _)) HB1.out.size
      rw [HXB.out] at hcl
      unfold OwnPost at hcl
      simp only at hcl
      rw [HXL.out] at hcl
      refine hcl.mono ?_
      rintro e w2 ⟨A2, c2, rfl, ho2, hb2⟩
      unfold OwnB at ho2
      rw [HXL.out] at ho2
      have Q7 := Lib.hid ((hb2.block _ (row_lt P7.out)).trans P7.out)
      have Q8 := Lib.hid ((hb2.block _ (row_lt P8.out)).trans P8.out)
      have Q9 := Lib.hid ((hb2.block _ (row_lt P9.out)).trans P9.out)
      have Q10 := Lib.hid ((hb2.block _ (row_lt P10.out)).trans P10.out)
      have HB2 := Lib.hid (HB1.out.trans (hb2.mono HB1.out.size))
      have HO2 := Lib.hid ho2
      clear hb2 ho2 hcl c7 c8 P7 P8 P9 P10 HB1
      go_wp2_with (refine wpList_load_row rfl 27 _ rfl g8 rfl _ F2.toArray _ _ Q8.out Try.underlying27 rfl Hf2.out.1 ?_)
      have hcl := build_any F2.toArray g w2 0 w.heap.size (HG.out.below HB2.out (Nat.le_refl _)) HB2.out.size
      rw [HYB.out] at hcl
      unfold OwnPost at hcl
      simp only at hcl
      rw [HYL.out] at hcl
      refine hcl.mono ?_
      rintro e w3 ⟨A3, c3, rfl, ho3, hb3⟩
      unfold OwnB at ho3
      rw [HYL.out] at ho3
      have P7 := Lib.hid ((hb3.block _ (row_lt Q7.out)).trans Q7.out)
      have P8 := Lib.hid ((hb3.block _ (row_lt Q8.out)).trans Q8.out)
      have P9 := Lib.hid ((hb3.block _ (row_lt Q9.out)).trans Q9.out)
      have P10 := Lib.hid ((hb3.block _ (row_lt Q10.out)).trans Q10.out)
      have HB3 := Lib.hid (HB2.out.trans (hb3.mono HB2.out.size))
      have HO3 := Lib.hid ho3
      have HO2 := Lib.hid (own_below HO2.out hb3 (Nat.le_refl _))
      clear hb3 ho3 hcl Q7 Q8 Q9 Q10 HB2
      go_wp2_with fail
      have hgr := fun d os => below_regrown w3 d os
      have kx : ∀ d os, (convert 25 9 (.slice A2 mx c2)).run Try.prog (Sort.grow (redrawn w3 d) os) = .ok (.string ⟨X.toArray⟩) (Sort.grow (redrawn w3 d) os) := fun d os => by
        have := run_text (P := Try.prog) (Sort.grow (redrawn w3 d) os) 25 9 5 c2 Try.underlying25 Try.underlying5 Try.underlying9 ((Rd.own HO2.out).below (hgr d os) (Nat.le_refl _))
        rwa [HXL.out] at this
      have ky : ∀ d os, (convert 25 9 (.slice A3 my c3)).run Try.prog (Sort.grow (redrawn w3 d) os) = .ok (.string ⟨Y.toArray⟩) (Sort.grow (redrawn w3 d) os) := fun d os => by
        have := run_text (P := Try.prog) (Sort.grow (redrawn w3 d) os) 25 9 5 c3 Try.underlying25 Try.underlying5 Try.underlying9 ((Rd.own HO3.out).below (hgr d os) (Nat.le_refl _))
        rwa [HYL.out] at this
      have K7 : ∀ w', (∃ p : Regrown, w' = Sort.grow (redrawn w3 p.d) p.os) → w'.heap[g7]? = some (.cells F1.toArray 27 (0, 0)) := fun w' ⟨p, e⟩ => by
        rw [e, (hgr p.d p.os).block _ (row_lt P7.out)]
        exact P7.out
      have K8 : ∀ w', (∃ p : Regrown, w' = Sort.grow (redrawn w3 p.d) p.os) → w'.heap[g8]? = some (.cells F2.toArray 27 (0, 0)) := fun w' ⟨p, e⟩ => by
        rw [e, (hgr p.d p.os).block _ (row_lt P8.out)]
        exact P8.out
      have KK7 := Lib.hid K7
      have KK8 := Lib.hid K8
      have hcs : ∀ d os, Calls Try.prog 13 #[.agg F1.toArray, .agg F2.toArray] (Sort.grow (redrawn w3 d) os) fun e w'' => e = .returned (.bool (frEq f g)) ∧ ∃ p : Regrown, w'' = Sort.grow (redrawn w3 p.d) p.os := fun d os =>
        Calls.regrown_of (same_any F1.toArray F2.toArray f g 0 w.heap.size 0 w.heap.size _ (HF.out.below (HB3.out.trans ((hgr d os).mono HB3.out.size)) (Nat.le_refl _)) (HG.out.below (HB3.out.trans ((hgr d os).mono HB3.out.size)) (Nat.le_refl _)) (Nat.le_trans HB3.out.size (hgr d os).size) (Nat.le_trans HB3.out.size (hgr d os).size))
      clear hgr K7 K8
      obtain ⟨v, hv, hxy⟩ : ∃ v, frEq f g = v ∧ ((v = true ∧ X = Y) ∨ (v = false ∧ (X == Y) = false ∧ ((⟨X.toArray⟩ : ByteArray).toList == (⟨Y.toArray⟩ : ByteArray).toList) = false)) := by
        by_cases hfg : f = g
        · exact ⟨true, by rw [hfg, frEq_self], .inl ⟨rfl, by rw [← HXE.out, ← HYE.out, hfg]⟩⟩
        · refine ⟨false, ?_, .inr ⟨rfl, texts_ne fun e => hfg (HINJ.out e)⟩⟩
          cases hq : frEq f g with
          | false => rfl
          | true => exact absurd ((frEq_iff f g).1 hq) hfg
      rw [hv] at hcs
      have HCS := Lib.hid hcs
      clear hv hcs
      rcases hxy with ⟨rfl, rfl⟩ | ⟨rfl, q1, q2⟩
      all_goals
        refine wp_region_quiet_below (by kernel_rfl) (by kernel_rfl) ?_
        repeat (first | (refine wpQuiet_step (fun K hK => ?_); refine quiet_load_row (by rfl) 27 _ rfl g7 rfl _ F1.toArray _ _ KK7.out Try.underlying27 rfl Hf1.out.1 ?_; refine hK _ ?_; clear hK K) | (refine wpQuiet_step (fun K hK => ?_); refine quiet_load_row (by rfl) 27 _ rfl g8 rfl _ F2.toArray _ _ KK8.out Try.underlying27 rfl Hf2.out.1 ?_; refine hK _ ?_; clear hK K) | quiet_step (first | (go_at_call 13; exact HCS.out _ _)))
        refine wpQuiet_nil ?_
        intro _ hw'
        obtain ⟨⟨dq, osq⟩, hw''⟩ := hw'
        subst hw''
        have hb4 := below_regrown w3 dq osq
        have P9 := Lib.hid ((hb4.block _ (row_lt P9.out)).trans P9.out)
        have P10 := Lib.hid ((hb4.block _ (row_lt P10.out)).trans P10.out)
        have HB4 := Lib.hid (HB3.out.trans (hb4.mono HB3.out.size))
        have HO2 := Lib.hid (own_below HO2.out hb4 (Nat.le_refl _))
        clear hb4 kx ky KK7 KK8 HCS P7 P8 HB3 HO3
        (try clear q1 q2)
        generalize Sort.grow (redrawn w3 dq) osq = w4 at P9 P10 HB4 HO2 ⊢
        have hk0 := u64_range z
        obtain ⟨zu, hzu⟩ : ∃ zu, IntKind.u64.wrap z = zu := ⟨_, rfl⟩
        rw [hzu] at hk0
        obtain ⟨k, hk, hk13⟩ := rem_small zu 14 (by decide)
        have hk13 : k ≤ 13 := hk13
        have hk2 : (k : Int) ≤ (c2 : Int) := Int.ofNat_le.2 (Nat.le_trans hk13 (Nat.le_trans (by decide) (Nat.le_trans HMX.out.1.1 (own_cap HO2.out).1)))
        obtain ⟨k2, hkk2, hk27⟩ := rem_small zu 28 (by decide)
        have hk27 : k2 ≤ 27 := hk27
        have hpc := parse_len A2 (X.take k) k c2 w1.heap.size w4.heap.size w4 (by rw [List.length_take, HXL.out]; exact Nat.min_eq_left (Nat.le_trans hk13 (Nat.le_trans (by decide) HMX.out.1.1))) (by have h := (Rd.own HO2.out).take k; rwa [cells_take] at h) (Nat.le_refl _) (Int.ofNat_le.1 hk2) (own_cap HO2.out).2
        have hpe : parseS (X.take k) = (Fr.zero, 6) := by
          have h13 : (X.take k).length ≤ 13 := Nat.le_trans (by rw [List.length_take]; exact Nat.min_le_left _ _) hk13
          unfold parseS
          rw [if_neg (Nat.not_lt.2 (Nat.le_trans h13 (by decide))), if_pos (Nat.lt_of_le_of_lt h13 (by decide))]
        rw [hpe] at hpc
        have htm : zu.tmod 14 = (k : Int) := by rw [Int.tmod_eq_emod_of_nonneg hk0.1]; exact hk
        have hwk := wrap_small k (Nat.le_trans hk13 (by decide))
        have htm2 : zu.tmod 28 = (k2 : Int) := by rw [Int.tmod_eq_emod_of_nonneg hk0.1]; exact hkk2
        have hwk2 := wrap_small k2 hk27
        have HPC := Lib.hid hpc
        have HK2 := Lib.hid (And.intro htm2 (And.intro hwk2 hk27))
        have HK0 := Lib.hid hk0
        have HZU := Lib.hid hzu
        clear hpc hpe hkk2 hk27 hk13 hk0 htm2 hwk2 hk
        have hwz := HZU.out
        go_wp2_with fail
        refine HPC.out.mono ?_
        rintro e w5 ⟨cs5, rfl, _, hb5⟩
        have HB5 := Lib.hid (HB4.out.trans (hb5.mono HB4.out.size))
        have Q9 := Lib.hid ((hb5.block _ (row_lt P9.out)).trans P9.out)
        have Q10 := Lib.hid ((hb5.block _ (row_lt P10.out)).trans P10.out)
        clear hb5 HPC hk2 htm hwk HB4 P9 P10 HO2
        go_wp2_with (refine wpList_load_row rfl 44 _ rfl g9 rfl _ R1.toArray _ _ Q9.out Try.underlying44 rfl Hr1.out.1 ?_)
        have hcl := buildarp_any R1.toArray a w5 HA.out
        obtain ⟨S1, hs1⟩ : ∃ S1, buildA a = S1 := ⟨_, rfl⟩
        obtain ⟨T1, r1⟩ := S1
        rw [hs1] at hcl
        unfold OwnPost at hcl
        simp only at hcl
        refine hcl.mono ?_
        rintro e w6 ⟨A6, c6, rfl, ho6, hb6⟩
        have HB6 := Lib.hid (HB5.out.trans (hb6.mono HB5.out.size))
        have P9 := Lib.hid ((hb6.block _ (row_lt Q9.out)).trans Q9.out)
        have P10 := Lib.hid ((hb6.block _ (row_lt Q10.out)).trans Q10.out)
        have HO6 := Lib.hid ho6
        have HS1 := Lib.hid hs1
        clear hb6 ho6 hcl hs1 HB5 Q9 Q10
        go_wp2_with (refine wpList_load_row rfl 44 _ rfl g10 rfl _ R2.toArray _ _ P10.out Try.underlying44 rfl Hr2.out.1 ?_)
        have hcl := buildarp_any R2.toArray b w6 HBB.out
        obtain ⟨S2, hs2⟩ : ∃ S2, buildA b = S2 := ⟨_, rfl⟩
        obtain ⟨T2, r2⟩ := S2
        rw [hs2] at hcl
        unfold OwnPost at hcl
        simp only at hcl
        refine hcl.mono ?_
        rintro e w7 ⟨A7, c7, rfl, ho7, hb7⟩
        have HB7 := Lib.hid (HB6.out.trans (hb7.mono HB6.out.size))
        have Q9 := Lib.hid ((hb7.block _ (row_lt P9.out)).trans P9.out)
        have Q10 := Lib.hid ((hb7.block _ (row_lt P10.out)).trans P10.out)
        have HO7 := Lib.hid ho7
        have HO6 := Lib.hid (own_below HO6.out hb7 (Nat.le_refl _))
        have HS2 := Lib.hid hs2
        clear hb7 ho7 hcl hs2 HB6 P9 P10
        by_cases ka : knownB a.o = true
        · have e1 : (T1, r1) = (a.bytes, 0) := HS1.out.symm.trans (by unfold buildA; rw [if_pos ka])
          have e2 : r1 = 0 := congrArg Prod.snd e1
          have e3 : T1 = a.bytes := congrArg Prod.fst e1
          have HL1 := Lib.hid ((congrArg List.length e3).trans (Ar.bytes_length HA.out.2))
          have HE3 := Lib.hid e3
          subst e2
          clear e1 e3 HS1
          by_cases kb : knownB b.o = true
          · have e1 : (T2, r2) = (b.bytes, 0) := HS2.out.symm.trans (by unfold buildA; rw [if_pos kb])
            have e2 : r2 = 0 := congrArg Prod.snd e1
            have e3 : T2 = b.bytes := congrArg Prod.fst e1
            have HL2 := Lib.hid ((congrArg List.length e3).trans (Ar.bytes_length HBB.out.2))
            have HE4 := Lib.hid e3
            have HAI := Lib.hid (abytes_inj HA.out.2 HBB.out.2 ka kb)
            subst e2
            clear e1 e3 HS2 ka kb
            obtain ⟨htm2, hwk2, hk27⟩ := HK2.out
            have hc6 := own_cap HO6.out
            rw [HL1.out] at hc6
            have hk2c : (k2 : Int) ≤ (c6 : Int) := Int.ofNat_le.2 (Nat.le_trans hk27 (Nat.le_trans (by decide) hc6.1))
            have hpc := parsearp_len A6 (T1.take k2) k2 c6 w5.heap.size w7.heap.size w7 (by rw [List.length_take, HL1.out]; exact Nat.min_eq_left (Nat.le_trans hk27 (by decide))) (by have h := (Rd.own HO6.out).take k2; rwa [cells_take] at h) (Nat.le_refl _) (Nat.le_trans hk27 (by decide)) (Int.ofNat_le.1 hk2c) hc6.2
            have hpe : parseA (T1.take k2) = (Ar.zero, 6) := by
              unfold parseA
              rw [if_pos (Nat.lt_of_le_of_lt (by rw [List.length_take]; exact Nat.min_le_left _ _) (Nat.lt_succ_of_le hk27))]
            rw [hpe] at hpc
            have HPC := Lib.hid hpc
            clear hpc hpe hk27 hc6
            rw [HL1.out, HL2.out]
            go_wp2_with fail
            refine HPC.out.mono ?_
            rintro e w8 ⟨cs8, rfl, _, hb8⟩
            have HB8 := Lib.hid (HB7.out.trans (hb8.mono HB7.out.size))
            have P9 := Lib.hid ((hb8.block _ (row_lt Q9.out)).trans Q9.out)
            have P10 := Lib.hid ((hb8.block _ (row_lt Q10.out)).trans Q10.out)
            have r6 := Rd.own (own_below HO6.out hb8 (Nat.le_refl _))
            have r7 := Rd.own (own_below HO7.out hb8 (Nat.le_refl _))
            have ht1 := fun k => run_text (P := Try.prog) (w8.drewN k) 25 9 5 c6 Try.underlying25 Try.underlying5 Try.underlying9 (r6.drewN k)
            have ht2 := fun k => run_text (P := Try.prog) (w8.drewN k) 25 9 5 c7 Try.underlying25 Try.underlying5 Try.underlying9 (r7.drewN k)
            rw [HL1.out] at ht1
            rw [HL2.out] at ht2
            have K9 : ∀ w', (∃ n, w' = w8.drewN n) → w'.heap[g9]? = some (.cells R1.toArray 44 (0, 0)) := fun w' ⟨n, e⟩ => by
              rw [e]
              exact ((below_drewN' (Below.refl w8.heap.size w8) n).block _ (row_lt P9.out)).trans P9.out
            have K10 : ∀ w', (∃ n, w' = w8.drewN n) → w'.heap[g10]? = some (.cells R2.toArray 44 (0, 0)) := fun w' ⟨n, e⟩ => by
              rw [e]
              exact ((below_drewN' (Below.refl w8.heap.size w8) n).block _ (row_lt P10.out)).trans P10.out
            have KK9 := Lib.hid K9
            have KK10 := Lib.hid K10
            obtain ⟨v, hv, hxy⟩ : ∃ v, arEq a b = v ∧ ((v = true ∧ T1 = T2) ∨ (v = false ∧ (T1 == T2) = false ∧ ((⟨T1.toArray⟩ : ByteArray).toList == (⟨T2.toArray⟩ : ByteArray).toList) = false)) := by
              by_cases hab : a = b
              · exact ⟨true, by rw [hab, arEq_self], .inl ⟨rfl, by rw [HE3.out, HE4.out, hab]⟩⟩
              · refine ⟨false, ?_, .inr ⟨rfl, texts_ne fun e => hab (HAI.out (HE3.out.symm.trans (e.trans HE4.out)))⟩⟩
                cases hq : arEq a b with
                | false => rfl
                | true => exact absurd ((arEq_iff a b).1 hq) hab
            have he := eq_arps 9997 R1.toArray R2.toArray a b HA.out HBB.out v hv
            clear hv K9 K10 r6 r7 hb8 hk2c htm2 hwk2 hwz HPC HB7 Q9 Q10
            go_wp2_with fail
            rcases hxy with ⟨rfl, rfl⟩ | ⟨rfl, q1, q2⟩
            all_goals
              refine wp_region_quiet_lit (by kernel_rfl) (by kernel_rfl) ?_
              repeat (first | (refine wpQuiet_step (fun K hK => ?_); refine quiet_load_row (by rfl) 44 _ rfl g9 rfl _ R1.toArray _ _ KK9.out Try.underlying44 rfl Hr1.out.1 ?_; refine hK _ ?_; clear hK K) | (refine wpQuiet_step (fun K hK => ?_); refine quiet_load_row (by rfl) 44 _ rfl g10 rfl _ R2.toArray _ _ KK10.out Try.underlying44 rfl Hr2.out.1 ?_; refine hK _ ?_; clear hK K) | quiet_step (fail))
              refine wpQuiet_nil ?_
              intro _ hw'
              obtain ⟨nq, hw''⟩ := hw'
              subst hw''
              have HB9 := Lib.hid (below_drewN' HB8.out nq)
              clear HB8 KK9 KK10 P9 P10 he ht1 ht2
              go_wp2
              go_ret
              exact ⟨rfl, HB9.out⟩
          · have e1 : (T2, r2) = ([], 1) := HS2.out.symm.trans (by unfold buildA; rw [if_neg kb])
            have e2 : r2 = 1 := congrArg Prod.snd e1
            subst e2
            clear e1 HS2 ka kb hwz
            go_wp2
            go_ret
            exact ⟨rfl, HB7.out⟩
        · have e1 : (T1, r1) = ([], 1) := HS1.out.symm.trans (by unfold buildA; rw [if_neg ka])
          have e2 : r1 = 1 := congrArg Prod.snd e1
          subst e2
          clear e1 HS1 ka hwz
          go_wp2
          go_ret
          exact ⟨rfl, HB7.out⟩
theorem rep_twice {w : World} {a : Sh} {cs : List Value} (h : (Sh.rep 2 a).ok w cs) : ∃ x y : List Value, cs = x ++ y ∧ a.ok w x ∧ a.ok w y := by
  obtain ⟨h0, h1⟩ := h
  have e0 := h1 0 (by decide)
  have e1 := h1 1 (by decide)
  rw [Nat.zero_mul, List.drop_zero] at e0
  rw [Nat.one_mul] at e1
  have ht : (cs.drop a.size).take a.size = cs.drop a.size := List.take_of_length_le (by rw [List.length_drop]; omega)
  rw [ht] at e1
  exact ⟨_, _, (List.take_append_drop a.size cs).symm, e0, e1⟩

theorem unlike_any (c0 c1 : List Value) (z : Int) (w : World)
    (w0 : (Sh.rep 2 (.cat (.rep 6 (.num .u8)) (.cat (.rep 6 (.num .u8)) (.cat (.num .u16) (.cat (.sl (.num .u8)) .non))))).ok w c0)
    (w1 : (Sh.rep 2 (.cat (.num .i64) (.cat (.rep 6 (.num .u8)) (.cat (.rep 4 (.num .u8)) (.cat (.rep 6 (.num .u8)) (.cat (.rep 4 (.num .u8)) .non)))))).ok w c1) (_w2 : (Lit.int .i64 z).wf = true) :
    Calls Try.prog 7 #[.agg c0.toArray, .agg c1.toArray, .int .i64 z] w fun e w' => e = .returned (.bool true) ∧ Below w.heap.size w w' := by
  obtain ⟨F1, F2, rfl, k1, k2⟩ := rep_twice w0
  obtain ⟨R1, R2, rfl, k3, k4⟩ := rep_twice w1
  obtain ⟨f, hf⟩ := fr_of_ok k1
  obtain ⟨g, hg⟩ := fr_of_ok k2
  obtain ⟨a, ha⟩ := ar_of_ok k3
  obtain ⟨b, hb⟩ := ar_of_ok k4
  exact unlike_walk F1 F2 R1 R2 f g a b z w hf hg ha hb
end Go.Proofs.Ytooepllgefndnaa
