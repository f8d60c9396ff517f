/-
  heap.Alloc. Every right heap, every number. No condition beyond that.
-/
import Derived.Test.YtagajijjcjfopaaInsH
import Derived.Test.YtagajijjcjfopaaMarkH
namespace Go.Proofs.Ytagajijjcjfopaa
open Go.RowKit

set_option maxRecDepth 100000 in
set_option maxHeartbeats 400000 in
theorem room_big (A1 A2 A3 : Option Addr) (nb nk nd c1 c2 c3 : Nat) (n : Int) (w : World) (hn : (nb : Int) < n) :
    Calls Try.prog 36 #[.agg #[.slice A1 nb c1, .slice A2 nk c2, .slice A3 nd c3], .int .i64 n] w fun e w' => e = .returned (.tuple #[.int .i64 0, .int .i64 0, .bool false]) ∧ Below w.heap.size w w' := by
  go_enter Try.func36, Try.ntmps36
  go_wp2
  refine ret_tmp3 rfl rfl ?_
  exact ⟨rfl, (Below.refl _ _).alloc (Nat.le_refl _) _⟩

theorem wp_store_cell {P : Program} {o : Oper} {a : Act} {w : World} {K : Act → World → Prop} {Q : Exit → Act → World → Prop} (ty : TypeId) (x y : Operand) (ho : o.op = .store ty x y) (g i : Nat) (u : Value)
    (hx : a.eval x = .pointer (some ⟨g, i, none⟩)) (hy : a.eval y = u) (h1 : u.oneCell' = true) (hc : u.cells = #[u]) (t : TypeId) (old : Array Value) (hg : w.heap[g]? = some (.cells old t (0, 0))) (hi : (P.info? ty).map (·.size) = some 1) (hf : i + 1 ≤ old.size)
    (new : Array Value) (hnew : (old.toList.take i ++ [u] ++ old.toList.drop (i + 1)).toArray = new) (h : K (a.put o.dst undef) (w.setRow g new)) : o.wp P a w K Q := by
  have hst := run_storeCells_at P g i t [u] 0 old w hg (by simpa using hf) (by intro v hv; simp at hv; subst hv; exact h1)
  simp only [Nat.add_zero, List.length_cons, List.length_nil, Nat.zero_add, hnew] at hst
  cases hq : P.info? ty with
  | none => simp [hq] at hi
  | some j =>
    have hs : j.size = 1 := by simpa [hq] using hi
    have hrun : (storeVar ty ⟨g, i, none⟩ u).run P w = .ok () (w.setRow g new) := by
      simp [storeVar, sizeOf, typeInfo, hq, hc, hs, hst]
    unfold Oper.wp execOp
    simp only [ho, hx, hy, Instr.storeAt, Instr.sureAddr, Sem.run_bind, Sem.run_pure, Result.andThen_ok, hrun]
    exact h
theorem ownk_kept {w w' : World} {base k : Nat} {e : TypeId} {v : Value} {n : Nat} {xs : List Value} {row : Option Nat} (h : w.ownsRow base e k v n xs) (hg : w.grownBy w' row) (hr : ∀ g C t fr, row = some g → w.heap[g]? = some (.cells C t fr) → t ≠ e) : w'.ownsRow base e k v n xs := by
  refine ⟨h.1, ?_⟩
  rcases h.2 with h | ⟨g, cap, cur, rfl, h1, h2, h3⟩
  · exact .inl h
  · exact .inr ⟨g, cap, cur, rfl, h1, (hg.block g (row_lt h2) fun e => hr g _ _ _ e.symm h2 rfl).trans h2, h3⟩
/-- what Alloc answers: the blocks, where, the error -/
def allocO (T : Nat) (L : List Bk) (n : Int) : List Bk × Nat × Int :=
  if n < 1 then (L, 0, 1) else if (T : Int) < n then (L, 0, 5) else
    match roomL T (wholeN n.toNat) 0 0 L with
    | none => (L, 0, 5)
    | some (a, i) => (L.take i ++ (a, wholeN n.toNat) :: L.drop i, a, 0)
theorem room_le {T n at_ i : Nat} {L : List Bk} {p : Nat × Nat} (h : roomL T n at_ i L = some p) : i ≤ p.2 ∧ p.2 ≤ i + L.length := by
  induction L generalizing at_ i with
  | nil =>
    unfold roomL at h
    split at h
    · cases h; exact ⟨Nat.le_refl _, Nat.le_refl _⟩
    · cases h
  | cons b r ih =>
    unfold roomL at h
    split at h
    · cases h; exact ⟨Nat.le_refl _, by simp⟩
    · have := ih h
      rw [List.length_cons]
      omega
def AllocPost (w : World) (B : List UInt8) (D : List Bool) (r : List Bk × Nat × Int) (e : Ending) (w' : World) : Prop :=
  ∃ v', e = .returned (.tuple #[v', .int .i64 (r.2.1 : Int), .int .i64 r.2.2]) ∧ Hp w.heap.size B r.1 D v' w' ∧ Below w.heap.size w w'

set_option maxRecDepth 100000 in
set_option maxHeartbeats 1000000 in
theorem alloc_any {B : List UInt8} {L : List Bk} {D : List Bool} {base : Nat} {v : Value} (n : Int) (w : World) (hv : Hp base B L D v w) (hR : RightH B L D) (hn : I64 n) :
    Calls Try.prog 18 #[v, .int .i64 n] w (AllocPost w B D (allocO B.length L n)) := by
  unfold I64 at hn
  unfold AllocPost
  obtain ⟨v1, v2, v3, rfl, hv⟩ := hv
  have hb := hR.bytes
  have hm := hR.many
  have hd := hR.most
  have HRR := Lib.hid hR
  obtain ⟨N, hN⟩ : ∃ N, w.heap.size = N := ⟨_, rfl⟩
  obtain ⟨w1, hw1⟩ : ∃ w1, (w.alloc (.cells #[v1, v2, v3] 29)).alloc (.cells #[.slice none 0 0, .slice none 0 0, .slice none 0 0] 29) = w1 := ⟨_, rfl⟩
  rw [hN]
  have HB1 : Hid (Below N w w1) := by rw [← hw1]; exact ((Below.refl _ _).alloc (by omega) _).alloc (by simp; omega) _
  have HZ1 : Hid (w1.heap.size = N + 2) := by rw [← hw1]; show _ = _; simp [hN]
  have HG0 : Hid (w1.heap[N]? = some (.cells #[v1, v2, v3] 29 (0, 0))) := by rw [← hw1, ← hN]; exact old_alloc (heap_alloc_new w _) _
  have HG1 : Hid (w1.heap[N + 1]? = some (.cells #[.slice none 0 0, .slice none 0 0, .slice none 0 0] 29 (0, 0))) := by
    rw [← hw1, ← hN]
    have := heap_alloc_new (w.alloc (.cells #[v1, v2, v3] 29)) (.cells #[.slice none 0 0, .slice none 0 0, .slice none 0 0] 29)
    simp only [World.size_alloc] at this
    exact this
  have HC := Lib.hid (clone_any B L D base (.agg #[v1, v2, v3]) w1 (by rw [← hw1]; exact (hv.shut.alloc _).alloc _) (by omega) (by omega) (by omega))
  have HH1 := Lib.hid hv.ones
  obtain ⟨cv0, cv1, cv2⟩ := three_cells HG0.out
  clear hv hR
  go_enter Try.func18, Try.ntmps18
  go_wp2_with fail
  refine HC.out.mono ?_
  rintro e w2 ⟨v', rfl, ⟨y1, y2, y3, rfl, hp2⟩, hb2⟩
  have hx2 := old_below HG0.out hb2 (row_lt HG0.out)
  have hg1 := old_below HG1.out hb2 (row_lt HG1.out)
  have HX2 := Lib.hid hx2
  have HO2 := Lib.hid hp2.ones
  rw [HZ1.out] at hp2
  have HP : Hid (HpV (N + 2) B L D (w2.setRow N #[y1, y2, y3]) y1 y2 y3) := hp2.other hx2 (by decide) (by decide) (by decide) (setRow_cells _ _ _)
  have HX := Lib.hid (setRow_heap w2 N _ #[y1, y2, y3] _ _ hx2)
  have HY1 := Lib.hid ((setRow_other w2 N (N + 1) #[y1, y2, y3] (by omega)).trans hg1)
  have HB3 : Hid (Below N w (w2.setRow N #[y1, y2, y3])) := below_setRow (HB1.out.trans (hb2.mono (by have := HZ1.out; omega))) (Nat.le_refl _) _
  clear hb2 hp2 hx2 hg1 hw1 cv0 cv1 cv2 HC HG0 HG1
  go_upto_region 2 with (refine wpList_store_row rfl 29 _ _ rfl N #[y1, y2, y3] rfl rfl 29 _ HX2.out (by kernel_rfl) rfl HO2.out ?_)
  generalize w2.setRow N #[y1, y2, y3] = w3 at HP HX HY1 HB3 ⊢
  clear HX2 HO2 HH1
  have HZ3 : Hid (N + 2 ≤ w3.heap.size) := by have := row_lt HY1.out; show _ ≤ _; omega
  obtain ⟨A1, c1, A2, c2, A3, c3, rfl, rfl, rfl⟩ := HP.out.forms
  obtain ⟨nb, hnb⟩ : ∃ k, B.length = k := ⟨_, rfl⟩
  obtain ⟨nk, hnk⟩ : ∃ k, L.length = k := ⟨_, rfl⟩
  obtain ⟨nd, hnd⟩ : ∃ k, D.length = k := ⟨_, rfl⟩
  rw [hnb, hnk, hnd] at HX HP
  rw [hnb] at hb
  rw [hnk] at hm
  have HNK := Lib.hid hnk
  have HNB := Lib.hid hnb
  clear hnk hnb hnd
  by_cases q1 : n < 1
  · have HV : Hid (allocO nb L n = (L, 0, 1)) := by show _ = _; unfold allocO; rw [if_pos q1]
    go_wp2_with (first | refine wpList_load_row rfl 29 _ rfl N rfl 29 #[.slice A1 nb c1, .slice A2 nk c2, .slice A3 nd c3] (0, 0) _ HX.out Try.underlying29 rfl (by kernel_rfl) ?_ | refine wpList_store_row rfl 29 _ _ rfl (N + 1) #[.slice A1 nb c1, .slice A2 nk c2, .slice A3 nd c3] rfl rfl 29 _ HY1.out (by kernel_rfl) rfl HP.out.ones ?_)
    refine ret_three (g := N + 1) rfl rfl (setRow_heap w3 (N + 1) _ #[.slice A1 nb c1, .slice A2 nk c2, .slice A3 nd c3] _ _ HY1.out) Try.underlying29 rfl (by kernel_rfl) rfl ?_
    rw [HNB.out, HV.out]
    exact ⟨_, rfl, ⟨_, _, _, rfl, (by
      have := ((HP.out.wide (base' := N) (by omega)).other HY1.out (by decide) (by decide) (by decide) (setRow_cells w3 (N + 1) #[.slice A1 nb c1, .slice A2 nk c2, .slice A3 nd c3]))
      exact this)⟩, below_setRow HB3.out (by omega) _⟩
  · by_cases q2 : (nb : Int) < n
    · have HV : Hid (allocO nb L n = (L, 0, 5)) := by show _ = _; unfold allocO; rw [if_neg q1, if_pos q2]
      go_wp2_with (refine wpList_load_row rfl 29 _ rfl N rfl 29 #[.slice A1 nb c1, .slice A2 nk c2, .slice A3 nd c3] (0, 0) _ HX.out Try.underlying29 rfl (by kernel_rfl) ?_)
      refine (room_big A1 A2 A3 nb nk nd c1 c2 c3 n w3 q2).mono ?_
      rintro e w4 ⟨rfl, hb4⟩
      have HB4 := Lib.hid (HB3.out.trans (hb4.mono (Nat.le_trans (Nat.le_add_right _ _) HZ3.out)))
      have HX4 := Lib.hid (old_below HX.out hb4 (row_lt HX.out))
      have HY4 := Lib.hid (old_below HY1.out hb4 (row_lt HY1.out))
      have HP4 := Lib.hid (HP.out.below hb4)
      clear hb4
      go_wp2_with (first | refine wpList_load_row rfl 29 _ rfl N rfl 29 #[.slice A1 nb c1, .slice A2 nk c2, .slice A3 nd c3] (0, 0) _ HX4.out Try.underlying29 rfl (by kernel_rfl) ?_ | refine wpList_store_row rfl 29 _ _ rfl (N + 1) #[.slice A1 nb c1, .slice A2 nk c2, .slice A3 nd c3] rfl rfl 29 _ HY4.out (by kernel_rfl) rfl HP4.out.ones ?_)
      refine ret_three (g := N + 1) rfl rfl (setRow_heap w4 (N + 1) _ #[.slice A1 nb c1, .slice A2 nk c2, .slice A3 nd c3] _ _ HY4.out) Try.underlying29 rfl (by kernel_rfl) rfl ?_
      rw [HNB.out, HV.out]
      exact ⟨_, rfl, ⟨_, _, _, rfl, (by
        have := ((HP4.out.wide (base' := N) (by omega)).other HY4.out (by decide) (by decide) (by decide) (setRow_cells w4 (N + 1) #[.slice A1 nb c1, .slice A2 nk c2, .slice A3 nd c3]))
        exact this)⟩, below_setRow HB4.out (by omega) _⟩
    · obtain ⟨k, rfl⟩ : ∃ k : Nat, n = (k : Int) := ⟨n.toNat, by omega⟩
      obtain ⟨r, hr⟩ : ∃ r, wholeN k = r := ⟨_, rfl⟩
      have HBL : Hid (Blk nb 0 L) := by rw [← HNB.out]; exact HRR.out.blk
      have hrm := room_any A1 A2 A3 nb nk nd c1 c2 c3 k L (N + 2) w3.heap.size w3 (ownk_rd (by have := HP.out.2.1; rwa [HNK.out] at this)) (Nat.le_refl _) HNK.out HBL.out hb (by omega) (by omega)
      rw [hr] at hrm
      have HRM := Lib.hid hrm
      have HKW : Hid (∀ w, Calls Try.prog 38 #[.int .i64 (k : Int)] w fun e w' => e = .returned (.int .i64 (r : Int)) ∧ w' = w) := fun w => by rw [← hr]; exact whole_any k w (by omega)
      have HRE := Lib.hid hr
      clear hrm hr
      cases ho : roomL nb r 0 0 L with
      | none =>
        have HV : Hid (allocO nb L (k : Int) = (L, 0, 5)) := by show _ = _; unfold allocO; rw [if_neg q1, if_neg q2, Int.toNat_natCast, HRE.out, ho]
        rw [ho] at HRM
        clear ho
        go_wp2_with (refine wpList_load_row rfl 29 _ rfl N rfl 29 #[.slice A1 nb c1, .slice A2 nk c2, .slice A3 nd c3] (0, 0) _ HX.out Try.underlying29 rfl (by kernel_rfl) ?_)
        refine HRM.out.mono ?_
        rintro e w4 ⟨⟨z1, z2, rfl⟩, hb4⟩
        have HB4 := Lib.hid (HB3.out.trans (hb4.mono (Nat.le_trans (Nat.le_add_right _ _) HZ3.out)))
        have HX4 := Lib.hid (old_below HX.out hb4 (row_lt HX.out))
        have HY4 := Lib.hid (old_below HY1.out hb4 (row_lt HY1.out))
        have HP4 := Lib.hid (HP.out.below hb4)
        clear hb4
        go_wp2_with (first | refine wpList_load_row rfl 29 _ rfl N rfl 29 #[.slice A1 nb c1, .slice A2 nk c2, .slice A3 nd c3] (0, 0) _ HX4.out Try.underlying29 rfl (by kernel_rfl) ?_ | refine wpList_store_row rfl 29 _ _ rfl (N + 1) #[.slice A1 nb c1, .slice A2 nk c2, .slice A3 nd c3] rfl rfl 29 _ HY4.out (by kernel_rfl) rfl HP4.out.ones ?_)
        refine ret_three (g := N + 1) rfl rfl (setRow_heap w4 (N + 1) _ #[.slice A1 nb c1, .slice A2 nk c2, .slice A3 nd c3] _ _ HY4.out) Try.underlying29 rfl (by kernel_rfl) rfl ?_
        rw [HNB.out, HV.out]
        exact ⟨_, rfl, ⟨_, _, _, rfl, (by
          have := ((HP4.out.wide (base' := N) (by omega)).other HY4.out (by decide) (by decide) (by decide) (setRow_cells w4 (N + 1) #[.slice A1 nb c1, .slice A2 nk c2, .slice A3 nd c3]))
          exact this)⟩, below_setRow HB4.out (by omega) _⟩
      | some p =>
        obtain ⟨a, i⟩ := p
        have hile : i ≤ nk := by have := (room_le ho).2; rw [HNK.out] at this; simpa using this
        have HV : Hid (allocO nb L (k : Int) = (L.take i ++ (a, r) :: L.drop i, a, 0)) := by show _ = _; unfold allocO; rw [if_neg q1, if_neg q2, Int.toNat_natCast, HRE.out, ho]
        rw [ho] at HRM
        clear ho
        go_wp2_with (refine wpList_load_row rfl 29 _ rfl N rfl 29 #[.slice A1 nb c1, .slice A2 nk c2, .slice A3 nd c3] (0, 0) _ HX.out Try.underlying29 rfl (by kernel_rfl) ?_)
        refine HRM.out.mono ?_
        rintro e w4 ⟨rfl, hb4⟩
        have HB4 := Lib.hid (HB3.out.trans (hb4.mono (Nat.le_trans (Nat.le_add_right _ _) HZ3.out)))
        have HX4 := Lib.hid (old_below HX.out hb4 (row_lt HX.out))
        have HY4 := Lib.hid (old_below HY1.out hb4 (row_lt HY1.out))
        have HP4 := Lib.hid (HP.out.below hb4)
        have HZ4 : Hid (N + 2 ≤ w4.heap.size) := by have := row_lt HY4.out; show _ ≤ _; omega
        clear hb4
        go_wp2
        have HOB : Hid (∀ g, (Value.slice A2 nk c2).ownBlock = some g → g < w4.heap.size ∧ N + 2 ≤ g) := fun g hg => ⟨(HP4.out.2.1.lt g hg).2, (HP4.out.2.1.lt g hg).1⟩
        apply wp_region_relyL [8] (fun Ld w' => w4.grownBy w' (Value.slice A2 nk c2).ownBlock ∧ (Ld 8 = false → w'.ownsRow (N + 2) 62 2 (.slice A2 nk c2) nk (bks L))) (RL [Is _, Is (.slice A2 nk c2), Is _, Is _, Is _, Is (.int .i64 (r : Int)), Is (.agg #[.int .i64 (a : Int), .int .i64 (r : Int)]), fun v w => ∃ g, v = .slice (some ⟨g, 0, none⟩) 1 1 ∧ w.heap[g]? = some (.cells #[.int .i64 (a : Int), .int .i64 (r : Int)] 62 (0, 0)) ∧ w4.heap.size ≤ g, OwnR (N + 2) 62 2 (nk + 1) (bks (L.take i ++ (a, r) :: L.drop i)), Is (.pointer (some ⟨N, 1, none⟩))]) [false, false, false, false, false, false, false, false, false, false, false, false, false, false, false, false, false, false, false, false, false, false, false, false, false, true, true, true, true, true, true, true, true, true, true, false, false] _ rfl
        · kernel_rfl
        · kernel_rfl
        · kernel_rfl
        · kernel_rfl
        · refine ⟨?_, ?_, ?_, ?_, ?_, ?_, ?_, ?_, ?_, ?_, trivial⟩
          · intro Ld ev w' hC hL hx K hK
            have e2 : ev (.tmp 2) = _ := hx.base 2 (by kernel_rfl)
            have HK := Lib.hid hK
            have HC := Lib.hid hC
            have HL := Lib.hid hL
            have HX := Lib.hid hx
            have hc := hx.cst
            skip
            clear hx hK hC hL
            unfold Run
            simp [execOp, Upon, go_sem, *]
            exact HK.out _ _ (.inl ⟨Below.refl _ _, by decide⟩) rfl
          · intro Ld ev w' hC hL hx K hK
            have e25 := hx.held 0 _ rfl (by kernel_rfl)
            change ev (.tmp 25) = _ at e25
            have HK := Lib.hid hK
            have HC := Lib.hid hC
            have HL := Lib.hid hL
            have HX := Lib.hid hx
            have hc := hx.cst
            skip
            clear hx hK hC hL
            have cc := (three_cells ((HC.out.1.block N (by have := HZ4.out; omega) (fun e => by have := HOB.out N e.symm; omega)).trans HX4.out)).2.1
            unfold Run
            simp [execOp, Upon, go_sem, *]
            exact HK.out _ _ (.inl ⟨Below.refl _ _, by decide⟩) rfl
          · intro Ld ev w' hC hL hx K hK
            have e8 : ev (.tmp 8) = _ := hx.base 8 (by kernel_rfl)
            have HK := Lib.hid hK
            have HC := Lib.hid hC
            have HL := Lib.hid hL
            have HX := Lib.hid hx
            have hc := hx.cst
            skip
            clear hx hK hC hL
            unfold Run
            simp [execOp, Upon, go_sem, *]
            exact HK.out _ _ (.inl ⟨Below.refl _ _, by decide⟩) rfl
          · intro Ld ev w' hC hL hx K hK
            have e7 : ev (.tmp 7) = _ := hx.base 7 (by kernel_rfl)
            have HK := Lib.hid hK
            have HC := Lib.hid hC
            have HL := Lib.hid hL
            have HX := Lib.hid hx
            have hc := hx.cst
            skip
            clear hx hK hC hL
            unfold Run
            simp [execOp, Upon, go_sem, *]
            exact HK.out _ _ (.inl ⟨Below.refl _ _, by decide⟩) rfl
          · intro Ld ev w' hC hL hx K hK
            have e1 : ev (.tmp 1) = _ := hx.base 1 (by kernel_rfl)
            have HK := Lib.hid hK
            have HC := Lib.hid hC
            have HL := Lib.hid hL
            have HX := Lib.hid hx
            have hc := hx.cst
            skip
            clear hx hK hC hL
            unfold Run
            simp [execOp, Upon, go_sem, *]
            exact HK.out _ _ (.inl ⟨Below.refl _ _, by decide⟩) rfl
          · intro Ld ev w' hC hL hx K hK
            have e29 := hx.held 4 _ rfl (by kernel_rfl)
            change ev (.tmp 29) = _ at e29
            have HK := Lib.hid hK
            have HC := Lib.hid hC
            have HL := Lib.hid hL
            have HX := Lib.hid hx
            have hc := hx.cst
            have hf := hx.fn
            clear hx hK hC hL
            unfold Run
            simp [execOp, Upon, go_sem, *]
            refine (HKW.out w').mono ?_
            rintro e w9 ⟨rfl, rfl⟩
            exact ⟨_, rfl, HK.out _ _ (.inl ⟨Below.refl _ _, by decide⟩) rfl⟩
          · intro Ld ev w' hC hL hx K hK
            have e28 := hx.held 3 _ rfl (by kernel_rfl)
            have e30 := hx.held 5 _ rfl (by kernel_rfl)
            change ev (.tmp 28) = _ at e28
            change ev (.tmp 30) = _ at e30
            have HK := Lib.hid hK
            have HC := Lib.hid hC
            have HL := Lib.hid hL
            have HX := Lib.hid hx
            have hc := hx.cst
            skip
            clear hx hK hC hL
            unfold Run
            simp [execOp, Upon, go_sem, *]
            exact HK.out _ _ (.inl ⟨Below.refl _ _, by decide⟩) rfl
          · intro Ld ev w' hC hL hx K hK
            have e31 := hx.held 6 _ rfl (by kernel_rfl)
            change ev (.tmp 31) = _ at e31
            have HK := Lib.hid hK
            have HC := Lib.hid hC
            have HL := Lib.hid hL
            have HX := Lib.hid hx
            have hc := hx.cst
            skip
            clear hx hK hC hL
            have q31 : ev (.tmp 31) = .agg #[.int .i64 (a : Int), .int .i64 (r : Int)] := e31
            have hrun := run_build_one (P := Try.prog) w' 26 62 #[.int .i64 (a : Int), .int .i64 (r : Int)] Try.underlying26 2 (by decide) (by decide) (by kernel_rfl) rfl
            unfold Run
            rw [run_buildE 26 _ rfl q31 hrun]
            exact HK.out _ _ (.inl ⟨(Below.refl _ _).alloc (Nat.le_refl _) _, by decide⟩) ⟨_, rfl, heap_alloc_new w' _, HC.out.1.size⟩
          · intro Ld ev w' hC hL hx K hK
            have e26 := hx.held 1 _ rfl (by kernel_rfl)
            have e27 := hx.held 2 _ rfl (by kernel_rfl)
            have e32 := hx.held 7 _ rfl (by kernel_rfl)
            change ev (.tmp 26) = _ at e26
            change ev (.tmp 27) = _ at e27
            change (fun v w => ∃ g, v = .slice (some ⟨g, 0, none⟩) 1 1 ∧ w.heap[g]? = some (.cells #[.int .i64 (a : Int), .int .i64 (r : Int)] 62 (0, 0)) ∧ w4.heap.size ≤ g : Pred) (ev (.tmp 32)) w' at e32
            have HK := Lib.hid hK
            have HC := Lib.hid hC
            have HL := Lib.hid hL
            have HX := Lib.hid hx
            have hc := hx.cst
            have hf := hx.fn
            clear hx hK hC hL
            obtain ⟨gk, q32, hgk, hgl⟩ := e32
            have q26 : ev (.tmp 26) = .slice A2 nk c2 := e26
            have hC := HC.out
            have hown := hC.2 HL.out
            have HGK := Lib.hid hgk
            have HIN := Lib.hid (ins_any (.slice A2 nk c2) nk i (N + 2) gk a r L w' hown HNK.out hgk (fun g hg => by have := (HOB.out g hg).1; omega) (by omega) hile (Nat.le_trans HZ4.out hC.1.size))
            clear hC hown hgk
            unfold Run
            simp [execOp, Upon, go_sem, *]
            refine HIN.out.mono ?_
            rintro e w9 ⟨v9, rfl, ho9, hg9⟩
            refine ⟨_, rfl, HK.out _ _ (.inr ⟨⟨HC.out.1.trans hg9, fun h => by simp [upd] at h⟩, fun j hj hlj u hr => ?_⟩) ho9⟩
            refine rl_sg (S := fun x y => w4.heap.size ≤ x.heap.size ∧ x.grownBy y (Value.slice A2 nk c2).ownBlock) (ex := [8]) 0 (by exact ⟨.inr (is_sg _ _), .inr (is_sg _ _), .inr (is_sg _ _), .inr (is_sg _ _), .inr (is_sg _ _), .inr (is_sg _ _), .inr (is_sg _ _), .inr (fun u x y hxy ⟨g, h1, h2, h3⟩ => ⟨g, h1, (hxy.2.block g (row_lt h2) (fun e => by have := (HOB.out g e.symm).1; omega)).trans h2, h3⟩), .inl rfl, .inr (is_sg _ _), trivial⟩) j u _ _ ?_ ⟨HC.out.1.size, hg9⟩ hr
            simp at hj ⊢
            omega
          · intro Ld ev w' hC hL hx K hK
            have e2 : ev (.tmp 2) = _ := hx.base 2 (by kernel_rfl)
            have HK := Lib.hid hK
            have HC := Lib.hid hC
            have HL := Lib.hid hL
            have HX := Lib.hid hx
            have hc := hx.cst
            skip
            clear hx hK hC hL
            unfold Run
            simp [execOp, Upon, go_sem, *]
            exact HK.out _ _ (.inl ⟨Below.refl _ _, by decide⟩) rfl
        · exact rl_mono ⟨is_mono _, is_mono _, is_mono _, is_mono _, is_mono _, is_mono _, is_mono _, fun _ _ _ hb ⟨g, h1, h2, h3⟩ => ⟨g, h1, (hb.block g (row_lt h2)).trans h2, h3⟩, ownr_mono _ _ _ _ _, is_mono _, trivial⟩
        · exact fun L1 L2 w1 he h => ⟨h.1, fun hh => h.2 (by rw [he 8 (by simp)]; exact hh)⟩
        · exact fun L1 w1 w2 hb h => ⟨grown_below h.1 hb, fun hh => ownk_below (h.2 hh) hb (Nat.le_refl _)⟩
        · exact ⟨World.grownBy.refl _ _, fun _ => by have := HP4.out.2.1; rwa [HNK.out] at this⟩
        · simp
        intro us wr hG hH
        obtain ⟨-, -, -, -, -, -, -, -, h8, h9, -⟩ := hH
        simp only [fillM]
        change (OwnR (N + 2) 62 2 (nk + 1) (bks (L.take i ++ (a, r) :: L.drop i)) : Pred) (us 33) wr at h8
        change us 34 = _ at h9
        rw [h9]
        clear h9
        generalize us 25 = v25
        generalize us 26 = v26
        generalize us 27 = v27
        generalize us 28 = v28
        generalize us 29 = v29
        generalize us 30 = v30
        generalize us 31 = v31
        generalize us 32 = v32
        generalize us 33 = v33 at h8 ⊢
        change wr.ownsRow (N + 2) 62 2 v33 (nk + 1) (bks (L.take i ++ (a, r) :: L.drop i)) at h8
        obtain ⟨A9, c9, rfl, -⟩ := ownk_form h8
        have hn : ∀ b o, b < N + 2 → w4.heap[b]? = some o → wr.heap[b]? = some o := fun b o hb ho => (hG.1.block b (row_lt ho) (fun e => by have := (HOB.out b e.symm).2; omega)).trans ho
        have hxr := hn N _ (by omega) HX4.out
        have hyr := hn (N + 1) _ (by omega) HY4.out
        refine wp_store_cell 26 (.tmp 34) (.tmp 33) rfl N 1 (.slice A9 (nk + 1) c9) rfl rfl rfl rfl 29 #[.slice A1 nb c1, .slice A2 nk c2, .slice A3 nd c3] hxr (by kernel_rfl) (by simp) #[.slice A1 nb c1, .slice A9 (nk + 1) c9, .slice A3 nd c3] rfl ?_
        have hkp : ∀ {e : TypeId} {v : Value} {n : Nat} {xs : List Value}, 62 ≠ e → w4.ownsRow (N + 2) e 1 v n xs → wr.ownsRow (N + 2) e 1 v n xs := fun hne ho => ownk_kept ho hG.1 (fun g C t fr hg hC => by have := ownk_type HP4.out.2.1 hg hC; rw [this]; exact hne)
        have HP5 : Hid (HpV (N + 2) B (L.take i ++ (a, r) :: L.drop i) D (wr.setRow N #[.slice A1 nb c1, .slice A9 (nk + 1) c9, .slice A3 nd c3]) (.slice A1 nb c1) (.slice A9 (nk + 1) c9) (.slice A3 nd c3)) := by
          refine HpV.other (w := wr) ⟨hkp (by decide) HP4.out.1, ?_, hkp (by decide) HP4.out.2.2⟩ hxr (by decide) (by decide) (by decide) (setRow_cells _ _ _)
          rw [show (L.take i ++ (a, r) :: L.drop i).length = nk + 1 from by rw [List.length_append, List.length_cons, List.length_take, List.length_drop, HNK.out]; omega]
          exact h8
        have HX5 := Lib.hid (setRow_heap wr N _ #[.slice A1 nb c1, .slice A9 (nk + 1) c9, .slice A3 nd c3] _ _ hxr)
        have HY5 := Lib.hid ((setRow_other wr N (N + 1) #[.slice A1 nb c1, .slice A9 (nk + 1) c9, .slice A3 nd c3] (by omega)).trans hyr)
        have HB5 : Hid (Below N w (wr.setRow N #[.slice A1 nb c1, .slice A9 (nk + 1) c9, .slice A3 nd c3])) := by
          refine below_setRow (HB4.out.trans ⟨hG.1.os, hG.1.tape, hG.1.output, hG.1.size, fun b hb => ?_⟩) (Nat.le_refl _) _
          exact hG.1.block b (by have := HZ4.out; omega) (fun e => by have := (HOB.out b e.symm).2; omega)
        clear hn hxr hyr h8 hG hkp
        simp only [Act.put]
        generalize wr.setRow N #[.slice A1 nb c1, .slice A9 (nk + 1) c9, .slice A3 nd c3] = w5 at HP5 HX5 HY5 HB5 ⊢
        go_wp2_with (first | refine wpList_load_row rfl 29 _ rfl N rfl 29 #[.slice A1 nb c1, .slice A9 (nk + 1) c9, .slice A3 nd c3] (0, 0) _ HX5.out Try.underlying29 rfl (by kernel_rfl) ?_ | refine wpList_store_row rfl 29 _ _ rfl (N + 1) #[.slice A1 nb c1, .slice A9 (nk + 1) c9, .slice A3 nd c3] rfl rfl 29 _ HY5.out (by kernel_rfl) rfl HP5.out.ones ?_)
        refine ret_three (g := N + 1) rfl rfl (setRow_heap w5 (N + 1) _ #[.slice A1 nb c1, .slice A9 (nk + 1) c9, .slice A3 nd c3] _ _ HY5.out) Try.underlying29 rfl (by kernel_rfl) rfl ?_
        rw [HNB.out, HV.out]
        exact ⟨_, rfl, ⟨_, _, _, rfl, (by
          have := ((HP5.out.wide (base' := N) (by omega)).other HY5.out (by decide) (by decide) (by decide) (setRow_cells w5 (N + 1) #[.slice A1 nb c1, .slice A9 (nk + 1) c9, .slice A3 nd c3]))
          exact this)⟩, below_setRow HB5.out (by omega) _⟩
end Go.Proofs.Ytagajijjcjfopaa
