/-
  bridge.Forward: a frame comes in. Every bridge of at most eight ports that knows at most sixteen cards, every port, every slice of bytes that is read. No condition beyond that.
-/
import Derived.Test.YtecbelnmdimnkaaOtB
import Derived.Test.YtecbelnmdimnkaaRelyV
namespace Go.Proofs.Ytecbelnmdimnkaa
open Go.RowKit

/-- six bytes from a place on -/
def macOf (F : List UInt8) (i : Nat) : Mac := ⟨F.getD i 0, F.getD (i + 1) 0, F.getD (i + 2) 0, F.getD (i + 3) 0, F.getD (i + 4) 0, F.getD (i + 5) 0⟩
/-- what is known behind a frame -/
def fwK (K : List Ln) (q : Nat) (F : List UInt8) : List Ln := if (macOf F 6).x0.toNat % 2 = 1 then K else seeP K (macOf F 6) q
theorem fwK_le {K : List Ln} (q : Nat) (F : List UInt8) (h : K.length ≤ 16) : (fwK K q F).length ≤ 16 := by
  unfold fwK
  split
  · exact h
  · exact seeP_le _ _ _
theorem run_array {P : Program} (t e : TypeId) (n len : Nat) (A : Option Addr) (c : Nat) (w : World) (ht : P.underlying t = some (.array n e)) (h : n ≤ len) : (Instr.arrayAt t (.slice A len c)).run P w = .ok (.pointer A) w := by
  have h' : ¬ len < n := by omega
  simp [Instr.arrayAt, run_underlying ht, h']
theorem arr_mac (A : Option Addr) (c : Nat) (w : World) : (Instr.arrayAt 46 (.slice A 6 c)).run Try.prog w = .ok (.pointer A) w := run_array _ _ 6 6 A c w Try.underlying46 (Nat.le_refl _)
theorem own_not {w : World} {base k b n : Nat} {e t : TypeId} {v : Value} {xs : List Value} {C : Array Value} {fr : Nat × Nat} (h : w.ownsRow base e k v n xs) (hg : w.heap[b]? = some (.cells C t fr)) (hne : t ≠ e) : v.ownBlock ≠ some b := fun he => hne (ownk_type h he hg)
theorem mac_cells (F : List UInt8) (i : Nat) (h : i + 6 ≤ F.length) (j : Nat) (v : Value) (hv : (macA (macOf F i))[j]? = some v) : (cells F)[i + j]? = some v := by
  have hj := (Array.getElem?_eq_some_iff.1 hv).1
  rw [macA_size] at hj
  have key : ∀ k, k < 6 → (cells F)[i + k]? = some (.int .u8 ((F.getD (i + k) 0).toNat : Int)) := fun k hk => by
    rw [cells_get F (i + k) (by omega), List.getD_eq_getElem?_getD, List.getElem?_eq_getElem (by omega)]
    rfl
  rw [key j hj]
  rcases j with _ | _ | _ | _ | _ | _ | j
  · exact hv
  · exact hv
  · exact hv
  · exact hv
  · exact hv
  · exact hv
  · omega
theorem rely_load {P : Program} {ev : Operand → Value} {o : Oper} {w : World} (ty : TypeId) (x : Operand) (ho : o.op = .load ty x) {ad : Addr} (hx : ev x = .pointer (some ad)) {v : Value} (hl : (loadVar ty ad).run P w = .ok v w) : (execOp ev o).run P w = .ok (.value v) w := by
  unfold execOp
  simp only [ho, hx, Instr.loadAt, Instr.sureAddr, Sem.run_bind, Sem.run_pure, Result.andThen_ok, hl]
theorem rely_store {P : Program} {ev : Operand → Value} {o : Oper} {w w' : World} (ty : TypeId) (x y : Operand) (ho : o.op = .store ty x y) {ad : Addr} (hx : ev x = .pointer (some ad)) {v : Value} (hy : ev y = v) (hl : (storeVar ty ad v).run P w = .ok () w') : (execOp ev o).run P w = .ok .skip w' := by
  unfold execOp
  simp only [ho, hx, hy, Instr.storeAt, Instr.sureAddr, Sem.run_bind, Sem.run_pure, Result.andThen_ok, hl]
/-- the two variables of 'dst, src := ..', in whatever order they are made -/
def Two (w0 : World) (d s : Mac) (L : Nat → Bool) (us : Nat → Value) (w' : World) : Prop :=
  Below w0.heap.size w0 w' ∧ (L 8 = true → ∃ g, us 9 = .pointer (some ⟨g, 0, none⟩) ∧ w0.heap.size ≤ g ∧ w'.heap[g]? = some (.cells (if L 10 then macA d else Z6) 46 (0, 0))) ∧
    (L 9 = true → ∃ g, us 10 = .pointer (some ⟨g, 0, none⟩) ∧ w0.heap.size ≤ g ∧ w'.heap[g]? = some (.cells (if L 11 then macA s else Z6) 46 (0, 0))) ∧ (L 8 = true → L 9 = true → us 9 ≠ us 10)
section
variable {w0 w' : World} {d s : Mac} {L : Nat → Bool} {us : Nat → Value}
theorem reg_below {w'' : World} (h : Two w0 d s L us w') (hb : Below w'.heap.size w' w'') : Two w0 d s L us w'' := by
  obtain ⟨g1, g2, g3, g4⟩ := h
  refine ⟨g1.trans (hb.mono g1.size), fun h => ?_, fun h => ?_, g4⟩
  · obtain ⟨g, e1, e2, e3⟩ := g2 h
    exact ⟨g, e1, e2, (hb.block _ (row_lt e3)).trans e3⟩
  · obtain ⟨g, e1, e2, e3⟩ := g3 h
    exact ⟨g, e1, e2, (hb.block _ (row_lt e3)).trans e3⟩
theorem reg_alloc8 (h : Two w0 d s L us w') (hn : L 10 = false) : Two w0 d s (upd L 8) (updV us (some 9) (.pointer (some ⟨w'.heap.size, 0, none⟩))) (w'.alloc (.cells Z6 46)) := by
  obtain ⟨g1, g2, g3, g4⟩ := h
  refine ⟨g1.alloc g1.size _, fun _ => ⟨w'.heap.size, rfl, g1.size, ?_⟩, fun h => ?_, fun _ h => ?_⟩
  · show _ = some (Obj.cells (if L 10 = true then macA d else Z6) _ _)
    rw [hn, if_neg (by simp)]
    exact heap_alloc_new w' _
  · obtain ⟨g, e1, e2, e3⟩ := g3 h
    exact ⟨g, e1, e2, old_alloc e3 _⟩
  · obtain ⟨g, e1, e2, e3⟩ := g3 h
    show Value.pointer (some ⟨w'.heap.size, 0, none⟩) ≠ us 10
    rw [e1]
    have := row_lt e3
    intro e
    injection e with e
    injection e with e
    injection e with e
    omega
theorem reg_alloc9 (h : Two w0 d s L us w') (hn : L 11 = false) : Two w0 d s (upd L 9) (updV us (some 10) (.pointer (some ⟨w'.heap.size, 0, none⟩))) (w'.alloc (.cells Z6 46)) := by
  obtain ⟨g1, g2, g3, g4⟩ := h
  refine ⟨g1.alloc g1.size _, fun h => ?_, fun _ => ⟨w'.heap.size, rfl, g1.size, ?_⟩, fun h _ => ?_⟩
  · obtain ⟨g, e1, e2, e3⟩ := g2 h
    exact ⟨g, e1, e2, old_alloc e3 _⟩
  · show _ = some (Obj.cells (if L 11 = true then macA s else Z6) _ _)
    rw [hn, if_neg (by simp)]
    exact heap_alloc_new w' _
  · obtain ⟨g, e1, e2, e3⟩ := g2 h
    show us 9 ≠ Value.pointer (some ⟨w'.heap.size, 0, none⟩)
    rw [e1]
    have := row_lt e3
    intro e
    injection e with e
    injection e with e
    injection e with e
    omega
theorem reg_store10 {g : Nat} {v : Value} (h : Two w0 d s L us w') (h8 : L 8 = true) (hg : us 9 = .pointer (some ⟨g, 0, none⟩)) : Two w0 d s (upd L 10) (updV us none v) (w'.setRow g (macA d)) := by
  obtain ⟨g1, g2, g3, g4⟩ := h
  obtain ⟨g', e1, e2, e3⟩ := g2 h8
  rw [hg] at e1
  injection e1 with e1
  injection e1 with e1
  injection e1 with e1
  subst e1
  refine ⟨below_setRow g1 e2 _, fun _ => ⟨g, hg, e2, setRow_heap _ _ _ _ _ _ e3⟩, fun h => ?_, fun h1 h2 => g4 h1 h2⟩
  obtain ⟨g', f1, f2, f3⟩ := g3 h
  refine ⟨g', f1, f2, (setRow_other w' g g' _ fun e => ?_).trans f3⟩
  subst e
  exact g4 h8 h (hg.trans f1.symm)
theorem reg_store11 {g : Nat} {v : Value} (h : Two w0 d s L us w') (h9 : L 9 = true) (hg : us 10 = .pointer (some ⟨g, 0, none⟩)) : Two w0 d s (upd L 11) (updV us none v) (w'.setRow g (macA s)) := by
  obtain ⟨g1, g2, g3, g4⟩ := h
  obtain ⟨g', e1, e2, e3⟩ := g3 h9
  rw [hg] at e1
  injection e1 with e1
  injection e1 with e1
  injection e1 with e1
  subst e1
  refine ⟨below_setRow g1 e2 _, fun h => ?_, fun _ => ⟨g, hg, e2, setRow_heap _ _ _ _ _ _ e3⟩, fun h1 h2 => g4 h1 h2⟩
  obtain ⟨g', f1, f2, f3⟩ := g2 h
  refine ⟨g', f1, f2, (setRow_other w' g g' _ fun e => ?_).trans f3⟩
  subst e
  exact g4 h h9 (f1.trans hg.symm)
end

/-- what Forward answers -/
def fwX (P : Nat) (K : List Ln) (z : Int) (F : List UInt8) : List Ln × List Nat × Int :=
  if z < 0 ∨ (P : Int) ≤ z then (K, [], 1) else if F.length < 14 then (K, [], 6) else (fwK K z.toNat F, outX P (fwK K z.toNat F) z.toNat (macOf F 0), 0)
def FwPost (w : World) (P : Nat) (r : List Ln × List Nat × Int) (e : Ending) (w' : World) : Prop :=
  ∃ v' u, e = .returned (.tuple #[v', u, .int .i64 r.2.2]) ∧ BrT w' v' P r.1 ∧ IsT w' u r.2.1 ∧ Below w.heap.size w w'
theorem B2_ones (P n c : Nat) (A : Option Addr) : (#[.int .i64 (P : Int), .slice A n c] : Array Value).all (·.oneCell') = true := by simp [Value.oneCell']

set_option maxRecDepth 100000 in
set_option maxHeartbeats 8000000 in
theorem fw_any (v : Value) (P : Nat) (K : List Ln) (z : Int) (F : List UInt8) (A : Option Addr) (c lo hi : Nat) (w : World) (hv : BrT w v P K) (hl : K.length ≤ 16) (hP : P ≤ 8) (hF : Rd w lo hi A (cells F)) (hhi : hi ≤ w.heap.size) (hc : F.length ≤ c) (hcm : c ≤ maxLen) :
    Calls Try.prog 9 #[v, .int .i64 z, .slice A F.length c] w (FwPost w P (fwX P K z F)) := by
  obtain ⟨s, rfl, hk⟩ := hv
  obtain ⟨As, cs, rfl, htr, hAs, hnc, hcs⟩ := id hk
  obtain ⟨k, hkl⟩ : ∃ k, K.length = k := ⟨_, rfl⟩
  rw [hkl] at hl hk hnc ⊢
  obtain ⟨w1, hw1⟩ : ∃ w1, (w.alloc (.cells #[.int .i64 (P : Int), .slice As k cs] 27)).alloc (.cells B2 27) = w1 := ⟨_, rfl⟩
  have HB1 : Hid (Below w.heap.size w w1) := by rw [← hw1]; exact ((Below.refl _ _).alloc (Nat.le_refl _) _).alloc (by simp) _
  have hn1 : w1.heap[w.heap.size]? = some (.cells #[.int .i64 (P : Int), .slice As k cs] 27 (0, 0)) := by rw [← hw1]; exact old_alloc (heap_alloc_new w _) _
  have HM1 : Hid (w1.heap[w.heap.size + 1]? = some (.cells B2 27 (0, 0))) := by rw [← hw1]; exact new_at1 w _ _
  have HN1 := Lib.hid hn1
  have HRD : Hid (Rd w1 0 w1.heap.size As (lns K)) := (htr.below HB1.out (Nat.le_refl _)).rd
  have HAS : Hid (As = none → cs = 0) := hAs
  have HW := Lib.hid hw1
  have HKL := Lib.hid hkl
  have HRF := Lib.hid hF
  have HHI := Lib.hid hhi
  have HPP := Lib.hid hP
  have HL := Lib.hid hl
  have hc2 : c ≤ 9223372036854775807 := by unfold maxLen at hcm; omega
  obtain ⟨n, hn⟩ : ∃ n, F.length = n := ⟨_, rfl⟩
  rw [hn] at hc ⊢
  have HFN := Lib.hid hn
  obtain ⟨c0, c1⟩ := two_cells hn1
  clear hw1 hk htr hkl hn1 hF hhi hcm hnc hcs hAs hl hn hP
  go_enter Try.func9, Try.ntmps9
  go_upto_region 1 with (fail)
  change Code.wp _ _ _ _ ((w.alloc (.cells #[.int .i64 (P : Int), .slice As k cs] 27)).alloc (.cells B2 27))
  rw [HW.out]
  clear HW
  go_wp2_with fail
  refine (clonel_any As (lns K) k cs 0 w1.heap.size w1 HRD.out (Nat.le_refl _) (by rw [lns_length, HKL.out]) (lns_one K) HAS.out (by have := HL.out; omega)).mono ?_
  rintro e w2 ⟨v2, rfl, hown2, hb2⟩
  obtain ⟨A2, cc2, rfl, -, -, -⟩ := ownk_form hown2
  have hn2 := old_below HN1.out hb2 (row_lt HN1.out)
  have hm2 := old_below HM1.out hb2 (row_lt HM1.out)
  obtain ⟨N, hN⟩ : ∃ N, w.heap.size = N := ⟨_, rfl⟩
  have HNE := Lib.hid hN
  obtain ⟨M, hM⟩ : ∃ M, w.heap.size + 1 = M := ⟨_, rfl⟩
  have HNM : Hid (N ≠ M) := by show _ ≠ _; omega
  have HLT : Hid (N ≤ w1.heap.size ∧ N ≤ M) := ⟨by rw [← hN]; exact HB1.out.size, by omega⟩
  rw [hM] at hm2 ⊢
  rw [hN] at hn2 HB1 c0 c1 ⊢
  have d1 := (two_cells hn2).2
  have f1 := frozen_of_row w2 N 1 _ _ hn2
  have HN3 : Hid ((w2.setCell ⟨N, 1, none⟩ (.slice A2 k cc2)).heap[N]? = some (.cells #[.int .i64 (P : Int), .slice A2 k cc2] 27 (0, 0))) := heap_setCell_same w2 N 1 _ _ (.slice A2 k cc2) hn2
  have HM3 : Hid ((w2.setCell ⟨N, 1, none⟩ (.slice A2 k cc2)).heap[M]? = some (.cells B2 27 (0, 0))) := (heap_setCell_other w2 ⟨N, 1, none⟩ M (.slice A2 k cc2) (fun e => HNM.out e.symm)).trans hm2
  have HO3 : Hid ((w2.setCell ⟨N, 1, none⟩ (.slice A2 k cc2)).ownsRow N 58 7 (.slice A2 k cc2) K.length (lns K)) := by
    rw [HKL.out]
    exact ownk_base (ownk_other hown2 hn2 (by decide) fun j hj => heap_setCell_other w2 ⟨N, 1, none⟩ j (.slice A2 k cc2) hj) HLT.out.1
  have HB3 : Hid (Below N w (w2.setCell ⟨N, 1, none⟩ (.slice A2 k cc2))) := (HB1.out.trans (hb2.mono HLT.out.1)).setCell (p := ⟨N, 1, none⟩) (Nat.le_refl _) (.slice A2 k cc2)
  have HLT3 : Hid (N ≤ (w2.setCell ⟨N, 1, none⟩ (.slice A2 k cc2)).heap.size) := by
    show N ≤ _
    simp
    exact Nat.le_trans HLT.out.1 hb2.size
  clear hown2 hb2 hn2 hm2 hN hM HB1 HN1 HM1 HRD HAS c0 c1
  go_upto_region 2 with (fail)
  generalize w2.setCell ⟨N, 1, none⟩ (.slice A2 k cc2) = w3 at HN3 HM3 HO3 HB3 HLT3 ⊢
  clear d1 f1
  have HRF3 : Hid (Rd w3 lo hi A (cells F)) := HRF.out.below HB3.out (by rw [← HNE.out]; exact HHI.out)
  clear HRF
  rcases Int.lt_or_le z 0 with hz | hz
  · have HX : Hid (fwX P K z F = (K, [], 1)) := by show _ = _; unfold fwX; rw [if_pos (.inl hz)]
    go_wp2_with (first | refine wpList_load_row rfl 27 _ rfl N rfl 27 #[.int .i64 (P : Int), .slice A2 k cc2] (0, 0) _ HN3.out Try.underlying27 rfl (by kernel_rfl) ?_ | refine wpList_store_row rfl 27 _ _ rfl M #[.int .i64 (P : Int), .slice A2 k cc2] rfl rfl 27 _ HM3.out (by kernel_rfl) rfl (B2_ones _ _ _ _) ?_)
    refine ret_three (g := M) (cs := #[.int .i64 (P : Int), .slice A2 k cc2]) rfl rfl (setRow_heap _ _ _ _ _ _ HM3.out) Try.underlying27 rfl (by kernel_rfl) rfl ?_
    rw [HX.out]
    exact ⟨_, _, rfl, ⟨_, rfl, (KsT.own HO3.out).setRow HM3.out (by decide) _⟩, IsT.nil, by rw [HNE.out]; exact below_setRow HB3.out HLT.out.2 _⟩
  obtain ⟨q, rfl⟩ := Int.eq_ofNat_of_zero_le hz
  have hz' : ¬ (q : Int) < 0 := by omega
  obtain ⟨c0, c1⟩ := two_cells HN3.out
  clear hz
  have hcase : P ≤ q ∨ (q < P ∧ n < 14) ∨ (q < P ∧ 14 ≤ n) := by omega
  rcases hcase with hq | ⟨hq, hn⟩ | ⟨hq, hn⟩
  · have HX : Hid (fwX P K (q : Int) F = (K, [], 1)) := by show _ = _; unfold fwX; rw [if_pos (.inr (by omega))]
    have hq' : (P : Int) ≤ (q : Int) := by omega
    go_wp2_with fail
    refine (ports_any P (.slice A2 k cc2) w3 HPP.out).mono ?_
    rintro e w4 ⟨rfl, hb4⟩
    have HN4 := Lib.hid (old_below HN3.out hb4 (row_lt HN3.out))
    have HM4 := Lib.hid (old_below HM3.out hb4 (row_lt HM3.out))
    have HO4 := Lib.hid (ownk_below HO3.out hb4 (Nat.le_refl _))
    have HB4 := Lib.hid (HB3.out.trans (hb4.mono HLT3.out))
    have HLT4 : Hid (N ≤ w4.heap.size) := Nat.le_trans HLT3.out hb4.size
    have HRF4 : Hid (Rd w4 lo hi A (cells F)) := HRF3.out.below hb4 (by have := HHI.out; rw [HNE.out] at this; exact Nat.le_trans this HLT3.out)
    clear hb4 c0 c1 HN3 HM3 HO3 HB3 HLT3 HRF3
    have HN3 := HN4
    have HM3 := HM4
    have HO3 := HO4
    have HB3 := HB4
    have HLT3 := HLT4
    have HRF3 := HRF4
    clear HN4 HM4 HO4 HB4 HLT4 HRF4
    go_wp2_with (first | refine wpList_load_row rfl 27 _ rfl N rfl 27 #[.int .i64 (P : Int), .slice A2 k cc2] (0, 0) _ HN3.out Try.underlying27 rfl (by kernel_rfl) ?_ | refine wpList_store_row rfl 27 _ _ rfl M #[.int .i64 (P : Int), .slice A2 k cc2] rfl rfl 27 _ HM3.out (by kernel_rfl) rfl (B2_ones _ _ _ _) ?_)
    refine ret_three (g := M) (cs := #[.int .i64 (P : Int), .slice A2 k cc2]) rfl rfl (setRow_heap _ _ _ _ _ _ HM3.out) Try.underlying27 rfl (by kernel_rfl) rfl ?_
    rw [HX.out]
    exact ⟨_, _, rfl, ⟨_, rfl, (KsT.own HO3.out).setRow HM3.out (by decide) _⟩, IsT.nil, by rw [HNE.out]; exact below_setRow HB3.out HLT.out.2 _⟩
  · have HX : Hid (fwX P K (q : Int) F = (K, [], 6)) := by show _ = _; unfold fwX; rw [if_neg (by omega), if_pos (by rw [HFN.out]; exact hn)]
    have hq' : ¬ (P : Int) ≤ (q : Int) := by omega
    have hn' : (n : Int) < 14 := by omega
    go_wp2_with fail
    refine (ports_any P (.slice A2 k cc2) w3 HPP.out).mono ?_
    rintro e w4 ⟨rfl, hb4⟩
    have HN4 := Lib.hid (old_below HN3.out hb4 (row_lt HN3.out))
    have HM4 := Lib.hid (old_below HM3.out hb4 (row_lt HM3.out))
    have HO4 := Lib.hid (ownk_below HO3.out hb4 (Nat.le_refl _))
    have HB4 := Lib.hid (HB3.out.trans (hb4.mono HLT3.out))
    have HLT4 : Hid (N ≤ w4.heap.size) := Nat.le_trans HLT3.out hb4.size
    have HRF4 : Hid (Rd w4 lo hi A (cells F)) := HRF3.out.below hb4 (by have := HHI.out; rw [HNE.out] at this; exact Nat.le_trans this HLT3.out)
    clear hb4 c0 c1 HN3 HM3 HO3 HB3 HLT3 HRF3
    have HN3 := HN4
    have HM3 := HM4
    have HO3 := HO4
    have HB3 := HB4
    have HLT3 := HLT4
    have HRF3 := HRF4
    clear HN4 HM4 HO4 HB4 HLT4 HRF4
    go_wp2_with (first | refine wpList_load_row rfl 27 _ rfl N rfl 27 #[.int .i64 (P : Int), .slice A2 k cc2] (0, 0) _ HN3.out Try.underlying27 rfl (by kernel_rfl) ?_ | refine wpList_store_row rfl 27 _ _ rfl M #[.int .i64 (P : Int), .slice A2 k cc2] rfl rfl 27 _ HM3.out (by kernel_rfl) rfl (B2_ones _ _ _ _) ?_)
    refine ret_three (g := M) (cs := #[.int .i64 (P : Int), .slice A2 k cc2]) rfl rfl (setRow_heap _ _ _ _ _ _ HM3.out) Try.underlying27 rfl (by kernel_rfl) rfl ?_
    rw [HX.out]
    exact ⟨_, _, rfl, ⟨_, rfl, (KsT.own HO3.out).setRow HM3.out (by decide) _⟩, IsT.nil, by rw [HNE.out]; exact below_setRow HB3.out HLT.out.2 _⟩
  · have HX : Hid (fwX P K (q : Int) F = (fwK K q F, outX P (fwK K q F) q (macOf F 0), 0)) := by show _ = _; unfold fwX; rw [if_neg (by omega), if_neg (by rw [HFN.out]; omega)]; rfl
    have hq' : ¬ (P : Int) ≤ (q : Int) := by omega
    have hn' : ¬ (n : Int) < 14 := by omega
    go_wp2_with fail
    refine (ports_any P (.slice A2 k cc2) w3 HPP.out).mono ?_
    rintro e w4 ⟨rfl, hb4⟩
    have HN4 := Lib.hid (old_below HN3.out hb4 (row_lt HN3.out))
    have HM4 := Lib.hid (old_below HM3.out hb4 (row_lt HM3.out))
    have HO4 := Lib.hid (ownk_below HO3.out hb4 (Nat.le_refl _))
    have HB4 := Lib.hid (HB3.out.trans (hb4.mono HLT3.out))
    have HLT4 : Hid (N ≤ w4.heap.size) := Nat.le_trans HLT3.out hb4.size
    have HRF4 : Hid (Rd w4 lo hi A (cells F)) := HRF3.out.below hb4 (by have := HHI.out; rw [HNE.out] at this; exact Nat.le_trans this HLT3.out)
    clear hb4 c0 c1 HN3 HM3 HO3 HB3 HLT3 HRF3
    have HN3 := HN4
    have HM3 := HM4
    have HO3 := HO4
    have HB3 := HB4
    have HLT3 := HLT4
    have HRF3 := HRF4
    clear HN4 HM4 HO4 HB4 HLT4 HRF4
    obtain ⟨ad, rfl, hcells⟩ : ∃ ad, A = some ad ∧ ∀ k u, (cells F)[k]? = some u → ∀ w', Below w4.heap.size w4 w' → w'.cell? (ad.add k) = some u := by
      have hlen : 0 < (cells F).length := by rw [cells_length, HFN.out]; omega
      obtain ⟨ad, e, _⟩ := HRF3.out 0 _ (List.getElem?_eq_getElem hlen)
      refine ⟨ad, e, fun k u hu w' hb => ?_⟩
      obtain ⟨ad', e', _, h2, h⟩ := HRF3.out k u hu
      rw [e] at e'
      cases e'
      rw [hb.cell (by rw [blk_add]; have := HHI.out; rw [HNE.out] at this; exact Nat.lt_of_lt_of_le h2 (Nat.le_trans this HLT3.out))]
      exact h
    obtain ⟨d, hd⟩ : ∃ d, macOf F 0 = d := ⟨_, rfl⟩
    obtain ⟨s, hs⟩ : ∃ s, macOf F 6 = s := ⟨_, rfl⟩
    have HD : Hid (∀ w', Below w4.heap.size w4 w' → ∀ (j : Nat) v, (macA d)[j]? = some v → w'.cell? (ad.add j) = some v) := fun w' hb j v hv => hcells j v (by rw [← hd] at hv; have := mac_cells F 0 (by rw [HFN.out]; omega) j v hv; rwa [Nat.zero_add] at this) w' hb
    have HS : Hid (∀ w', Below w4.heap.size w4 w' → ∀ (j : Nat) v, (macA s)[j]? = some v → w'.cell? ((ad.add 6).add j) = some v) := fun w' hb j v hv => by
      rw [add_twice]
      refine hcells (6 + j) v ?_ w' hb
      rw [← hs] at hv
      exact mac_cells F 6 (by rw [HFN.out]; omega) j v hv
    have hfk : fwK K q F = if s.x0.toNat % 2 = 1 then K else seeP K s q := by unfold fwK; rw [hs]
    rw [hd, hfk] at HX
    have hc12 : 12 ≤ c := by omega
    have HC12 := Lib.hid hc12
    clear hcells hd hs hfk HRF3
    go_upto_region 6 with (fail)
    apply wp_region_relyV [8, 9, 10, 11] [9, 10] (Two w4 d s) (RL [Is (.slice (some ad) n c), Is (.slice (some ad) 6 c), Is (.pointer (some ad)), Is (.agg (macA d)), Is (.slice (some ad) n c), Is (.slice (some (ad.add 6)) 6 (c - 6)), Is (.pointer (some (ad.add 6))), Is (.agg (macA s)), Any, Any, Any, Any]) [false, false, false, false, false, false, false, false, false, true, true, false, false, false, false, false, false, false, false, false, false, false, false, false, false, false, false, false, true, true, true, true, true, true, true, true, false, false, false, false, false, false, false, false, false, false, false, false, false, false]
    · kernel_rfl
    · kernel_rfl
    · kernel_rfl
    · refine ⟨?_, ?_, ?_, ?_, ?_, ?_, ?_, ?_, ?_, ?_, ?_, ?_, trivial⟩
      · intro L us ev w' hus hC hL hx hnd K hK
        have e2 : ev (.tmp 2) = _ := hx.base 2 (by kernel_rfl)
        have HK := Lib.hid hK
        have HC := Lib.hid hC
        have HL := Lib.hid hL
        have HX := Lib.hid hx
        have HUS := Lib.hid hus
        have HND := Lib.hid hnd
        have hc := hx.cst
        skip
        clear hx hK hC hL hus hnd
        unfold Run
        simp [execOp, Upon, go_sem, *]
        exact HK.out _ _ (.inl ⟨Below.refl _ _, by decide⟩) rfl
      · intro L us ev w' hus hC hL hx hnd K hK
        have e28 := hx.held 0 _ rfl (by kernel_rfl)
        change ev (.tmp 28) = _ at e28
        have HK := Lib.hid hK
        have HC := Lib.hid hC
        have HL := Lib.hid hL
        have HX := Lib.hid hx
        have HUS := Lib.hid hus
        have HND := Lib.hid hnd
        have hc := hx.cst
        skip
        clear hx hK hC hL hus hnd
        have q28 : ev (.tmp 28) = .slice (some ad) n c := e28
        have hrun : (Instr.slice 33 (.slice (some ad) n c) none (some (.int .i64 (6 : Nat))) none).run Try.prog w' = .ok (.slice (some ad) 6 c) w' := by
          have := run_slice_h (P := Try.prog) 33 5 1 Try.underlying33 (by kernel_rfl) (some ad) n c 6 (by have := HC12.out; omega) w'
          rw [if_neg (by have := HC12.out; omega)] at this
          exact this
        unfold Run
        rw [run_sliceE 33 _ none (some _) rfl Try.underlying33 q28 (by rw [Option.map_some, hc]; exact hrun)]
        exact HK.out _ _ (.inl ⟨Below.refl _ _, by decide⟩) rfl
      · intro L us ev w' hus hC hL hx hnd K hK
        have e29 := hx.held 1 _ rfl (by kernel_rfl)
        change ev (.tmp 29) = _ at e29
        have HK := Lib.hid hK
        have HC := Lib.hid hC
        have HL := Lib.hid hL
        have HX := Lib.hid hx
        have HUS := Lib.hid hus
        have HND := Lib.hid hnd
        have hc := hx.cst
        skip
        clear hx hK hC hL hus hnd
        have q29 : ev (.tmp 29) = .slice (some ad) 6 c := e29
        have ha := arr_mac
        unfold Run
        simp [execOp, Upon, go_sem, *]
        exact HK.out _ _ (.inl ⟨Below.refl _ _, by decide⟩) rfl
      · intro L us ev w' hus hC hL hx hnd K hK
        have e30 := hx.held 2 _ rfl (by kernel_rfl)
        change ev (.tmp 30) = _ at e30
        have HK := Lib.hid hK
        have HC := Lib.hid hC
        have HL := Lib.hid hL
        have HX := Lib.hid hx
        have HUS := Lib.hid hus
        have HND := Lib.hid hnd
        have hc := hx.cst
        skip
        clear hx hK hC hL hus hnd
        have q30 : ev (.tmp 30) = .pointer (some ad) := e30
        have hld := run_loadVar_any (P := Try.prog) w' ad 46 (macA d).toList _ (fun j v hv => HD.out w' HC.out.1 j v (by simpa using hv)) Try.underlying46 rfl (by kernel_rfl)
        rw [Array.toArray_toList] at hld
        unfold Run
        rw [rely_load 46 _ rfl q30 hld]
        exact HK.out _ _ (.inl ⟨Below.refl _ _, by decide⟩) rfl
      · intro L us ev w' hus hC hL hx hnd K hK
        have e2 : ev (.tmp 2) = _ := hx.base 2 (by kernel_rfl)
        have HK := Lib.hid hK
        have HC := Lib.hid hC
        have HL := Lib.hid hL
        have HX := Lib.hid hx
        have HUS := Lib.hid hus
        have HND := Lib.hid hnd
        have hc := hx.cst
        skip
        clear hx hK hC hL hus hnd
        unfold Run
        simp [execOp, Upon, go_sem, *]
        exact HK.out _ _ (.inl ⟨Below.refl _ _, by decide⟩) rfl
      · intro L us ev w' hus hC hL hx hnd K hK
        have e32 := hx.held 4 _ rfl (by kernel_rfl)
        change ev (.tmp 32) = _ at e32
        have HK := Lib.hid hK
        have HC := Lib.hid hC
        have HL := Lib.hid hL
        have HX := Lib.hid hx
        have HUS := Lib.hid hus
        have HND := Lib.hid hnd
        have hc := hx.cst
        skip
        clear hx hK hC hL hus hnd
        have q32 : ev (.tmp 32) = .slice (some ad) n c := e32
        have hrun : (Instr.slice 33 (.slice (some ad) n c) (some (.int .i64 (6 : Nat))) (some (.int .i64 (12 : Nat))) none).run Try.prog w' = .ok (.slice (some (ad.add 6)) 6 (c - 6)) w' := by
          have := run_slice_lh (P := Try.prog) 33 5 1 Try.underlying33 (by kernel_rfl) (some ad) n c 6 12 (by omega) HC12.out w'
          rw [if_neg (by have := HC12.out; omega)] at this
          exact this
        unfold Run
        rw [run_sliceE 33 _ (some _) (some _) rfl Try.underlying33 q32 (by rw [Option.map_some, Option.map_some, hc, hc]; exact hrun)]
        exact HK.out _ _ (.inl ⟨Below.refl _ _, by decide⟩) rfl
      · intro L us ev w' hus hC hL hx hnd K hK
        have e33 := hx.held 5 _ rfl (by kernel_rfl)
        change ev (.tmp 33) = _ at e33
        have HK := Lib.hid hK
        have HC := Lib.hid hC
        have HL := Lib.hid hL
        have HX := Lib.hid hx
        have HUS := Lib.hid hus
        have HND := Lib.hid hnd
        have hc := hx.cst
        skip
        clear hx hK hC hL hus hnd
        have q33 : ev (.tmp 33) = .slice (some (ad.add 6)) 6 (c - 6) := e33
        have ha := arr_mac
        unfold Run
        simp [execOp, Upon, go_sem, *]
        exact HK.out _ _ (.inl ⟨Below.refl _ _, by decide⟩) rfl
      · intro L us ev w' hus hC hL hx hnd K hK
        have e34 := hx.held 6 _ rfl (by kernel_rfl)
        change ev (.tmp 34) = _ at e34
        have HK := Lib.hid hK
        have HC := Lib.hid hC
        have HL := Lib.hid hL
        have HX := Lib.hid hx
        have HUS := Lib.hid hus
        have HND := Lib.hid hnd
        have hc := hx.cst
        skip
        clear hx hK hC hL hus hnd
        have q34 : ev (.tmp 34) = .pointer (some (ad.add 6)) := e34
        have hld := run_loadVar_any (P := Try.prog) w' (ad.add 6) 46 (macA s).toList _ (fun j v hv => HS.out w' HC.out.1 j v (by simpa using hv)) Try.underlying46 rfl (by kernel_rfl)
        rw [Array.toArray_toList] at hld
        unfold Run
        rw [rely_load 46 _ rfl q34 hld]
        exact HK.out _ _ (.inl ⟨Below.refl _ _, by decide⟩) rfl
      · intro L us ev w' hus hC hL hx hnd K hK
        have HK := Lib.hid hK
        have HC := Lib.hid hC
        have HL := Lib.hid hL
        have HX := Lib.hid hx
        have HUS := Lib.hid hus
        have HND := Lib.hid hnd
        have hc := hx.cst
        skip
        clear hx hK hC hL hus hnd
        have n10 : L 10 = false := Bool.eq_false_iff.2 fun h => by have := HX.out.closed 10 _ 8 rfl h (by kernel_rfl); rw [HL.out] at this; cases this
        obtain ⟨g1, g2, g3, g4⟩ := HC.out
        unfold Run
        simp [execOp, Upon, go_sem]
        refine HK.out _ _ (.inr ⟨?_, fun j hj hlj u hr => rl_sg (S := fun _ _ => True) (ex := []) 0 (by exact ⟨.inr (is_sg _ _), .inr (is_sg _ _), .inr (is_sg _ _), .inr (is_sg _ _), .inr (is_sg _ _), .inr (is_sg _ _), .inr (is_sg _ _), .inr (is_sg _ _), .inr (any_sg _), .inr (any_sg _), .inr (any_sg _), .inr (any_sg _), trivial⟩) j u _ _ rfl trivial hr⟩) trivial
        exact reg_alloc8 HC.out n10
      · intro L us ev w' hus hC hL hx hnd K hK
        have HK := Lib.hid hK
        have HC := Lib.hid hC
        have HL := Lib.hid hL
        have HX := Lib.hid hx
        have HUS := Lib.hid hus
        have HND := Lib.hid hnd
        have hc := hx.cst
        skip
        clear hx hK hC hL hus hnd
        have n11 : L 11 = false := Bool.eq_false_iff.2 fun h => by have := HX.out.closed 11 _ 9 rfl h (by kernel_rfl); rw [HL.out] at this; cases this
        obtain ⟨g1, g2, g3, g4⟩ := HC.out
        unfold Run
        simp [execOp, Upon, go_sem]
        refine HK.out _ _ (.inr ⟨?_, fun j hj hlj u hr => rl_sg (S := fun _ _ => True) (ex := []) 0 (by exact ⟨.inr (is_sg _ _), .inr (is_sg _ _), .inr (is_sg _ _), .inr (is_sg _ _), .inr (is_sg _ _), .inr (is_sg _ _), .inr (is_sg _ _), .inr (is_sg _ _), .inr (any_sg _), .inr (any_sg _), .inr (any_sg _), .inr (any_sg _), trivial⟩) j u _ _ rfl trivial hr⟩) trivial
        exact reg_alloc9 HC.out n11
      · intro L us ev w' hus hC hL hx hnd K hK
        have e9 := hx.held 8 _ rfl (by kernel_rfl)
        have e31 := hx.held 3 _ rfl (by kernel_rfl)
        change (Any : Pred) (ev (.tmp 9)) w' at e9
        change ev (.tmp 31) = _ at e31
        have HK := Lib.hid hK
        have HC := Lib.hid hC
        have HL := Lib.hid hL
        have HX := Lib.hid hx
        have HUS := Lib.hid hus
        have HND := Lib.hid hnd
        have hc := hx.cst
        skip
        clear hx hK hC hL hus hnd
        have l8 : L 8 = true := HND.out 8 (by kernel_rfl)
        have hs10 := HC.out
        obtain ⟨g, hg, hge, hgh⟩ := HC.out.2.1 l8
        have hl10 : L 10 = false := HL.out
        rw [hl10] at hgh
        have qp : ev (.tmp 9) = .pointer (some ⟨g, 0, none⟩) := (HUS.out 9).trans hg
        have qv : ev (.tmp 31) = .agg (macA d) := e31
        have hst := run_storeVar_row (P := Try.prog) w' g 46 46 Z6 (macA d) hgh (by kernel_rfl) rfl (macA_one _)
        unfold Run
        rw [rely_store 46 _ _ rfl qp qv hst]
        refine HK.out _ _ (.inr ⟨reg_store10 HC.out l8 hg, fun j hj hlj u hr => rl_sg (S := fun _ _ => True) (ex := []) 0 (by exact ⟨.inr (is_sg _ _), .inr (is_sg _ _), .inr (is_sg _ _), .inr (is_sg _ _), .inr (is_sg _ _), .inr (is_sg _ _), .inr (is_sg _ _), .inr (is_sg _ _), .inr (any_sg _), .inr (any_sg _), .inr (any_sg _), .inr (any_sg _), trivial⟩) j u _ _ rfl trivial hr⟩) trivial
      · intro L us ev w' hus hC hL hx hnd K hK
        have e10 := hx.held 9 _ rfl (by kernel_rfl)
        have e35 := hx.held 7 _ rfl (by kernel_rfl)
        change (Any : Pred) (ev (.tmp 10)) w' at e10
        change ev (.tmp 35) = _ at e35
        have HK := Lib.hid hK
        have HC := Lib.hid hC
        have HL := Lib.hid hL
        have HX := Lib.hid hx
        have HUS := Lib.hid hus
        have HND := Lib.hid hnd
        have hc := hx.cst
        skip
        clear hx hK hC hL hus hnd
        have l9 : L 9 = true := HND.out 9 (by kernel_rfl)
        have hs11 := HC.out
        obtain ⟨g, hg, hge, hgh⟩ := HC.out.2.2.1 l9
        have hl11 : L 11 = false := HL.out
        rw [hl11] at hgh
        have qp : ev (.tmp 10) = .pointer (some ⟨g, 0, none⟩) := (HUS.out 10).trans hg
        have qv : ev (.tmp 35) = .agg (macA s) := e35
        have hst := run_storeVar_row (P := Try.prog) w' g 46 46 Z6 (macA s) hgh (by kernel_rfl) rfl (macA_one _)
        unfold Run
        rw [rely_store 46 _ _ rfl qp qv hst]
        refine HK.out _ _ (.inr ⟨reg_store11 HC.out l9 hg, fun j hj hlj u hr => rl_sg (S := fun _ _ => True) (ex := []) 0 (by exact ⟨.inr (is_sg _ _), .inr (is_sg _ _), .inr (is_sg _ _), .inr (is_sg _ _), .inr (is_sg _ _), .inr (is_sg _ _), .inr (is_sg _ _), .inr (is_sg _ _), .inr (any_sg _), .inr (any_sg _), .inr (any_sg _), .inr (any_sg _), trivial⟩) j u _ _ rfl trivial hr⟩) trivial
    · exact rl_mono ⟨is_mono _, is_mono _, is_mono _, is_mono _, is_mono _, is_mono _, is_mono _, is_mono _, any_mono, any_mono, any_mono, any_mono, trivial⟩
    · exact fun L L' us us' w' h1 h2 hg => by unfold Two at *; rw [← h1 8 (by simp), ← h1 9 (by simp), ← h1 10 (by simp), ← h1 11 (by simp), ← h2 9 (by simp), ← h2 10 (by simp)]; exact hg
    · exact fun L us w' w'' hb hg => reg_below hg hb
    · kernel_rfl
    · exact ⟨Below.refl _ _, fun h => (by cases h), fun h => (by cases h), fun h => (by cases h)⟩
    · simp
    intro us wr hG hH
    obtain ⟨hB6, h8, h9, hne⟩ := hG
    obtain ⟨gd, ed, hgd, hxd⟩ := h8 rfl
    obtain ⟨gs, es, hgs, hxs⟩ := h9 rfl
    simp only [fillM]
    rw [ed, es]
    generalize us 28 = v28
    generalize us 29 = v29
    generalize us 30 = v30
    generalize us 31 = v31
    generalize us 32 = v32
    generalize us 33 = v33
    generalize us 34 = v34
    generalize us 35 = v35
    have HXD : Hid (wr.heap[gd]? = some (.cells (macA d) 46 (0, 0))) := hxd
    have HXS : Hid (wr.heap[gs]? = some (.cells (macA s) 46 (0, 0))) := hxs
    have HN5 := Lib.hid (old_below HN3.out hB6 (row_lt HN3.out))
    have HM5 := Lib.hid (old_below HM3.out hB6 (row_lt HM3.out))
    have HO5 := Lib.hid (ownk_below HO3.out hB6 (Nat.le_refl _))
    have HB5 := Lib.hid (HB3.out.trans (hB6.mono HLT3.out))
    have HLT5 : Hid (N ≤ wr.heap.size) := Nat.le_trans HLT3.out hB6.size
    clear hB6 h8 h9 hne ed es hgd hxd hgs hxs hH us HN3 HM3 HO3 HB3 HLT3 HD HS
    go_wp2_with (refine wpList_load_row rfl 46 _ rfl gs rfl 46 (macA s) (0, 0) _ HXS.out Try.underlying46 rfl (by kernel_rfl) ?_)
    refine (several_any s wr).mono ?_
    rintro e w6 ⟨rfl, hb6⟩
    have HN6 := Lib.hid (old_below HN5.out hb6 (row_lt HN5.out))
    have HM6 := Lib.hid (old_below HM5.out hb6 (row_lt HM5.out))
    have HXD6 := Lib.hid (old_below HXD.out hb6 (row_lt HXD.out))
    have HXS6 := Lib.hid (old_below HXS.out hb6 (row_lt HXS.out))
    have HO6 := Lib.hid (ownk_below HO5.out hb6 (Nat.le_refl _))
    have HB6 := Lib.hid (HB5.out.trans (hb6.mono HLT5.out))
    have HLT6 : Hid (N ≤ w6.heap.size) := Nat.le_trans HLT5.out hb6.size
    have HDM : Hid (¬ gd = M) := fun e => by
      have := HM6.out
      rw [← e, HXD6.out] at this
      injection this with this
      injection this with _ this
      exact absurd this (by decide)
    have HDN : Hid (¬ gd = N) := fun e => by
      have := HN6.out
      rw [← e, HXD6.out] at this
      injection this with this
      injection this with _ this
      exact absurd this (by decide)
    clear hb6 HN5 HM5 HXD HXS HO5 HB5 HLT5
    by_cases hodd : s.x0.toNat % 2 = 1
    · have HKK : Hid (K.length ≤ 16) := by show _ ≤ _; rw [HKL.out]; exact HL.out
      rw [if_pos hodd] at HX
      obtain ⟨K8, hK8⟩ : ∃ K8, K = K8 := ⟨_, rfl⟩
      rw [hK8] at HKK HO6
      have HX8 : Hid (fwX P K (q : Int) F = (K8, outX P K8 q d, 0)) := by rw [← hK8]; exact HX.out
      have hdc : decide (s.x0.toNat % 2 = 1) = true := decide_eq_true hodd
      rw [hdc]
      obtain ⟨w8, hw8⟩ : ∃ w8, w6 = w8 := ⟨_, rfl⟩
      rw [hw8] at HN6 HM6 HXD6 HO6 HB6 HLT6 ⊢
      have HN8 := HN6
      have HM8 := HM6
      have HD8 := HXD6
      have HO8 := HO6
      have HB8 := HB6
      have HLT8 := HLT6
      clear hw8 hK8 HXS6 hodd hdc HN6 HM6 HXD6 HO6 HB6 HLT6
      go_upto_region 9 with (fail)
      apply wp_region_relyG [5] (fun L w' => Gro (· = M) w8 w' ∧ w'.heap[M]? = some (.cells (if L 5 then #[.int .i64 (P : Int), .slice A2 k cc2] else B2) 27 (0, 0))) (RL [Is (.agg #[.int .i64 (P : Int), .slice A2 k cc2]), Is (.agg #[.int .i64 (P : Int), .slice A2 k cc2]), Is (.int .i64 (q : Int)), Is (.agg (macA d)), OwnR N 3 1 (outX P K8 q d).length (ints (outX P K8 q d)), Any, OwnR N 3 1 (outX P K8 q d).length (ints (outX P K8 q d)), Is (.int .i64 0)]) [false, false, false, false, false, false, false, true, true, false, false, false, false, false, false, false, false, false, false, false, false, false, false, false, false, false, false, false, false, false, false, false, false, false, false, false, false, false, false, false, false, false, false, false, false, true, true, true, true, true]
      · kernel_rfl
      · kernel_rfl
      · kernel_rfl
      · refine ⟨?_, ?_, ?_, ?_, ?_, ?_, ?_, ?_, trivial⟩
        · intro L ev w' hC hL hx K hK
          have e3 : ev (.tmp 3) = _ := hx.base 3 (by kernel_rfl)
          have HK := Lib.hid hK
          have HC := Lib.hid hC
          have HL := Lib.hid hL
          have HX := Lib.hid hx
          have hc := hx.cst
          skip
          clear hx hK hC hL
          have q1 : ev (.tmp 3) = .pointer (some ⟨N, 0, none⟩) := e3
          have hld := run_loadVar_row (P := Try.prog) w' N 27 27 #[.int .i64 (P : Int), .slice A2 k cc2] (0, 0) _ ((HC.out.1.block N (row_lt HN8.out) HNM.out).trans HN8.out) Try.underlying27 rfl (by kernel_rfl)
          unfold Run
          rw [rely_load 27 _ rfl q1 hld]
          exact HK.out _ _ (.inl ⟨Below.refl _ _, by decide⟩) rfl
        · intro L ev w' hC hL hx K hK
          have e3 : ev (.tmp 3) = _ := hx.base 3 (by kernel_rfl)
          have HK := Lib.hid hK
          have HC := Lib.hid hC
          have HL := Lib.hid hL
          have HX := Lib.hid hx
          have hc := hx.cst
          skip
          clear hx hK hC hL
          have q1 : ev (.tmp 3) = .pointer (some ⟨N, 0, none⟩) := e3
          have hld := run_loadVar_row (P := Try.prog) w' N 27 27 #[.int .i64 (P : Int), .slice A2 k cc2] (0, 0) _ ((HC.out.1.block N (row_lt HN8.out) HNM.out).trans HN8.out) Try.underlying27 rfl (by kernel_rfl)
          unfold Run
          rw [rely_load 27 _ rfl q1 hld]
          exact HK.out _ _ (.inl ⟨Below.refl _ _, by decide⟩) rfl
        · intro L ev w' hC hL hx K hK
          have e1 : ev (.tmp 1) = _ := hx.base 1 (by kernel_rfl)
          have HK := Lib.hid hK
          have HC := Lib.hid hC
          have HL := Lib.hid hL
          have HX := Lib.hid hx
          have hc := hx.cst
          skip
          clear hx hK hC hL
          unfold Run
          simp [execOp, Upon, go_sem, *]
          exact HK.out _ _ (.inl ⟨Below.refl _ _, by decide⟩) rfl
        · intro L ev w' hC hL hx K hK
          have e9 : ev (.tmp 9) = _ := hx.base 9 (by kernel_rfl)
          have HK := Lib.hid hK
          have HC := Lib.hid hC
          have HL := Lib.hid hL
          have HX := Lib.hid hx
          have hc := hx.cst
          skip
          clear hx hK hC hL
          have q1 : ev (.tmp 9) = .pointer (some ⟨gd, 0, none⟩) := e9
          have hld := run_loadVar_row (P := Try.prog) w' gd 46 46 (macA d) (0, 0) _ ((HC.out.1.block gd (row_lt HD8.out) HDM.out).trans HD8.out) Try.underlying46 rfl (by kernel_rfl)
          unfold Run
          rw [rely_load 46 _ rfl q1 hld]
          exact HK.out _ _ (.inl ⟨Below.refl _ _, by decide⟩) rfl
        · intro L ev w' hC hL hx K hK
          have e46 := hx.held 1 _ rfl (by kernel_rfl)
          have e47 := hx.held 2 _ rfl (by kernel_rfl)
          have e48 := hx.held 3 _ rfl (by kernel_rfl)
          change ev (.tmp 46) = _ at e46
          change ev (.tmp 47) = _ at e47
          change ev (.tmp 48) = _ at e48
          have HK := Lib.hid hK
          have HC := Lib.hid hC
          have HL := Lib.hid hL
          have HX := Lib.hid hx
          have hc := hx.cst
          have hf := hx.fn
          clear hx hK hC hL
          have q46 : ev (.tmp 46) = .agg #[.int .i64 (P : Int), .slice A2 k cc2] := e46
          have q48 : ev (.tmp 48) = .agg (macA d) := e48
          have hbr : BrT w' (.agg #[.int .i64 (P : Int), .slice A2 k cc2]) P K8 := ⟨_, rfl, (KsT.own HO8.out).keep fun g D hg => HC.out.1.block g (row_lt hg) fun e => by
            subst e
            have := HM8.out
            rw [hg] at this
            injection this with this
            injection this with _ this
            exact absurd this (by decide)⟩
          unfold Run
          simp [execOp, Upon, go_sem, *]
          refine (out_any _ P K8 q d w' hbr (Nat.le_trans HKK.out (by decide)) HPP.out).mono ?_
          rintro e w2 ⟨v, rfl, ho, hb⟩
          exact ⟨v, rfl, HK.out _ _ (.inl ⟨hb, by decide⟩) (ownk_base ho (Nat.le_trans HLT8.out HC.out.1.size))⟩
        · intro L ev w' hC hL hx K hK
          have e6 : ev (.tmp 6) = _ := hx.base 6 (by kernel_rfl)
          have e45 := hx.held 0 _ rfl (by kernel_rfl)
          change ev (.tmp 45) = _ at e45
          have HK := Lib.hid hK
          have HC := Lib.hid hC
          have HL := Lib.hid hL
          have HX := Lib.hid hx
          have hc := hx.cst
          skip
          clear hx hK hC hL
          have hl5 : L 5 = false := HL.out
          have hgh := HC.out.2
          rw [hl5] at hgh
          have qp : ev (.tmp 6) = .pointer (some ⟨M, 0, none⟩) := e6
          have qv : ev (.tmp 45) = .agg #[.int .i64 (P : Int), .slice A2 k cc2] := e45
          have hst := run_storeVar_row (P := Try.prog) w' M 27 27 B2 #[.int .i64 (P : Int), .slice A2 k cc2] hgh (by kernel_rfl) rfl (B2_ones _ _ _ _)
          unfold Run
          rw [rely_store 27 _ _ rfl qp qv hst]
          refine HK.out _ _ (.inr ⟨⟨gro_set HC.out.1 hgh rfl, ?_⟩, fun j hj hlj u hr => ?_⟩) trivial
          · have := setRow_heap w' M B2 #[.int .i64 (P : Int), .slice A2 k cc2] _ _ hgh
            rw [this]
            rfl
          · rcases j with _ | _ | _ | _ | _ | _ | _ | _ | j
            · exact hr
            · exact hr
            · exact hr
            · exact hr
            · exact ownk_other hr hgh (by decide) fun j hj => setRow_other _ _ _ _ hj
            · exact absurd rfl hj
            · exact ownk_other hr hgh (by decide) fun j hj => setRow_other _ _ _ _ hj
            · exact hr
            · exact trivial
        · intro L ev w' hC hL hx K hK
          have e49 := hx.held 4 _ rfl (by kernel_rfl)
          change (OwnR N 3 1 (outX P K8 q d).length (ints (outX P K8 q d)) : Pred) (ev (.tmp 49)) w' at e49
          have HK := Lib.hid hK
          have HC := Lib.hid hC
          have HL := Lib.hid hL
          have HX := Lib.hid hx
          have hc := hx.cst
          skip
          clear hx hK hC hL
          have HE := Lib.hid e49
          obtain ⟨A9, c9, q49, -⟩ := ownk_form HE.out
          rw [q49] at HE
          clear e49
          unfold Run
          simp [execOp, Upon, go_sem, *]
          exact HK.out _ _ (.inl ⟨Below.refl _ _, by decide⟩) HE.out
        · intro L ev w' hC hL hx K hK
          have HK := Lib.hid hK
          have HC := Lib.hid hC
          have HL := Lib.hid hL
          have HX := Lib.hid hx
          have hc := hx.cst
          skip
          clear hx hK hC hL
          unfold Run
          simp [execOp, Upon, go_sem, *]
          exact HK.out _ _ (.inl ⟨Below.refl _ _, by decide⟩) rfl
      · exact rl_mono ⟨is_mono _, is_mono _, is_mono _, is_mono _, ownr_mono _ _ _ _ _, any_mono, ownr_mono _ _ _ _ _, is_mono _, trivial⟩
      · exact fun L L' w' h hg => by rw [← h 5 (by simp)]; exact hg
      · exact fun L w' w'' hb hg => ⟨hg.1.trans (Gro.of hb), (hb.block _ (row_lt hg.2)).trans hg.2⟩
      · exact ⟨Gro.refl _, HM8.out⟩
      · simp
      intro us wr hG hH
      have HG := Lib.hid hG
      obtain ⟨-, -, -, -, -, -, h6, h7, -⟩ := hH
      simp only [fillM]
      change (OwnR N 3 1 (outX P K8 q d).length (ints (outX P K8 q d)) : Pred) (us 7) wr at h6
      change us 8 = _ at h7
      rw [h7]
      clear h7
      generalize us 45 = v45
      generalize us 46 = v46
      generalize us 47 = v47
      generalize us 48 = v48
      generalize us 49 = v49
      generalize us 7 = v7 at h6 ⊢
      have H6 := Lib.hid h6
      have HGM : Hid (wr.heap[M]? = some (.cells #[.int .i64 (P : Int), .slice A2 k cc2] 27 (0, 0))) := HG.out.2
      clear h6 hG
      go_wp2
      refine ret_three (g := M) (cs := #[.int .i64 (P : Int), .slice A2 k cc2]) rfl rfl HGM.out Try.underlying27 rfl (by kernel_rfl) rfl ?_
      rw [HX8.out]
      unfold FwPost
      rw [HNE.out]
      refine ⟨_, _, rfl, ⟨_, rfl, (KsT.own HO8.out).keep fun g D hg => HG.out.1.block g (row_lt hg) fun e => ?_⟩, IsT.own H6.out, HB8.out.trans (HG.out.1.below (fun k hk => by rw [hk]; exact HLT.out.2) HLT8.out)⟩
      subst e
      have := HM8.out
      rw [hg] at this
      injection this with this
      injection this with _ this
      exact absurd this (by decide)
    · have HKK : Hid ((seeP K s q).length ≤ 16) := seeP_le _ _ _
      rw [if_neg hodd] at HX
      have hdc : decide (s.x0.toNat % 2 = 1) = false := decide_eq_false hodd
      rw [hdc]
      obtain ⟨a0, a1⟩ := two_cells HN6.out
      go_wp2_with (refine wpList_load_row rfl 46 _ rfl gs rfl 46 (macA s) (0, 0) _ HXS6.out Try.underlying46 rfl (by kernel_rfl) ?_)
      refine (see_any (.slice A2 k cc2) K s q N w6 HO6.out (by rw [HKL.out]; exact HL.out) HLT6.out).mono ?_
      rintro e w7 ⟨v7, rfl, hown7, hb7⟩
      obtain ⟨K8, hK8⟩ : ∃ K8, seeP K s q = K8 := ⟨_, rfl⟩
      rw [hK8] at HKK hown7 HX
      have HX8 := HX
      obtain ⟨m, hm⟩ : ∃ m, K8.length = m := ⟨_, rfl⟩
      have HMM := Lib.hid hm
      rw [hm] at hown7
      obtain ⟨A7, c7, rfl, -, -, -⟩ := ownk_form hown7
      have hn7 := (hb7.block N (row_lt HN6.out) (fun e => own_not HO6.out HN6.out (by decide) e.symm)).trans HN6.out
      have hm7 := (hb7.block M (row_lt HM6.out) (fun e => own_not HO6.out HM6.out (by decide) e.symm)).trans HM6.out
      have hd7 := (hb7.block gd (row_lt HXD6.out) (fun e => own_not HO6.out HXD6.out (by decide) e.symm)).trans HXD6.out
      have hB7 : Below N w w7 := HB6.out.grown hb7 HLT6.out fun g hg => (HO6.out.lt g hg).1
      have d1 := (two_cells hn7).2
      have f1 := frozen_of_row w7 N 1 _ _ hn7
      have HN8 : Hid ((w7.setCell ⟨N, 1, none⟩ (.slice A7 m c7)).heap[N]? = some (.cells #[.int .i64 (P : Int), .slice A7 m c7] 27 (0, 0))) := heap_setCell_same w7 N 1 _ _ (.slice A7 m c7) hn7
      have HM8 : Hid ((w7.setCell ⟨N, 1, none⟩ (.slice A7 m c7)).heap[M]? = some (.cells B2 27 (0, 0))) := (heap_setCell_other w7 ⟨N, 1, none⟩ M (.slice A7 m c7) (fun e => HNM.out e.symm)).trans hm7
      have HD8 : Hid ((w7.setCell ⟨N, 1, none⟩ (.slice A7 m c7)).heap[gd]? = some (.cells (macA d) 46 (0, 0))) := (heap_setCell_other w7 ⟨N, 1, none⟩ gd (.slice A7 m c7) (fun e => HDN.out e)).trans hd7
      have HO8 : Hid ((w7.setCell ⟨N, 1, none⟩ (.slice A7 m c7)).ownsRow N 58 7 (.slice A7 m c7) K8.length (lns K8)) := by
        rw [HMM.out]
        exact ownk_other hown7 hn7 (by decide) fun j hj => heap_setCell_other w7 ⟨N, 1, none⟩ j (.slice A7 m c7) hj
      have HB8 : Hid (Below N w (w7.setCell ⟨N, 1, none⟩ (.slice A7 m c7))) := hB7.setCell (p := ⟨N, 1, none⟩) (Nat.le_refl _) _
      have HLT8 : Hid (N ≤ (w7.setCell ⟨N, 1, none⟩ (.slice A7 m c7)).heap.size) := by
        show N ≤ _
        simp
        exact Nat.le_trans HLT6.out hb7.size
      clear hown7 hb7 hn7 hm7 hd7 hB7 hK8 hm HN6 HM6 HXD6 HXS6 HO6 HB6 HLT6 a0 a1 hodd hdc
      go_upto_region 9 with (fail)
      generalize w7.setCell ⟨N, 1, none⟩ (.slice A7 m c7) = w8 at HN8 HM8 HD8 HO8 HB8 HLT8 ⊢
      clear d1 f1
      apply wp_region_relyG [5] (fun L w' => Gro (· = M) w8 w' ∧ w'.heap[M]? = some (.cells (if L 5 then #[.int .i64 (P : Int), .slice A7 m c7] else B2) 27 (0, 0))) (RL [Is (.agg #[.int .i64 (P : Int), .slice A7 m c7]), Is (.agg #[.int .i64 (P : Int), .slice A7 m c7]), Is (.int .i64 (q : Int)), Is (.agg (macA d)), OwnR N 3 1 (outX P K8 q d).length (ints (outX P K8 q d)), Any, OwnR N 3 1 (outX P K8 q d).length (ints (outX P K8 q d)), Is (.int .i64 0)]) [false, false, false, false, false, false, false, true, true, false, false, false, false, false, false, false, false, false, false, false, false, false, false, false, false, false, false, false, false, false, false, false, false, false, false, false, false, false, false, false, false, false, false, false, false, true, true, true, true, true]
      · kernel_rfl
      · kernel_rfl
      · kernel_rfl
      · refine ⟨?_, ?_, ?_, ?_, ?_, ?_, ?_, ?_, trivial⟩
        · intro L ev w' hC hL hx K hK
          have e3 : ev (.tmp 3) = _ := hx.base 3 (by kernel_rfl)
          have HK := Lib.hid hK
          have HC := Lib.hid hC
          have HL := Lib.hid hL
          have HX := Lib.hid hx
          have hc := hx.cst
          skip
          clear hx hK hC hL
          have q1 : ev (.tmp 3) = .pointer (some ⟨N, 0, none⟩) := e3
          have hld := run_loadVar_row (P := Try.prog) w' N 27 27 #[.int .i64 (P : Int), .slice A7 m c7] (0, 0) _ ((HC.out.1.block N (row_lt HN8.out) HNM.out).trans HN8.out) Try.underlying27 rfl (by kernel_rfl)
          unfold Run
          rw [rely_load 27 _ rfl q1 hld]
          exact HK.out _ _ (.inl ⟨Below.refl _ _, by decide⟩) rfl
        · intro L ev w' hC hL hx K hK
          have e3 : ev (.tmp 3) = _ := hx.base 3 (by kernel_rfl)
          have HK := Lib.hid hK
          have HC := Lib.hid hC
          have HL := Lib.hid hL
          have HX := Lib.hid hx
          have hc := hx.cst
          skip
          clear hx hK hC hL
          have q1 : ev (.tmp 3) = .pointer (some ⟨N, 0, none⟩) := e3
          have hld := run_loadVar_row (P := Try.prog) w' N 27 27 #[.int .i64 (P : Int), .slice A7 m c7] (0, 0) _ ((HC.out.1.block N (row_lt HN8.out) HNM.out).trans HN8.out) Try.underlying27 rfl (by kernel_rfl)
          unfold Run
          rw [rely_load 27 _ rfl q1 hld]
          exact HK.out _ _ (.inl ⟨Below.refl _ _, by decide⟩) rfl
        · intro L ev w' hC hL hx K hK
          have e1 : ev (.tmp 1) = _ := hx.base 1 (by kernel_rfl)
          have HK := Lib.hid hK
          have HC := Lib.hid hC
          have HL := Lib.hid hL
          have HX := Lib.hid hx
          have hc := hx.cst
          skip
          clear hx hK hC hL
          unfold Run
          simp [execOp, Upon, go_sem, *]
          exact HK.out _ _ (.inl ⟨Below.refl _ _, by decide⟩) rfl
        · intro L ev w' hC hL hx K hK
          have e9 : ev (.tmp 9) = _ := hx.base 9 (by kernel_rfl)
          have HK := Lib.hid hK
          have HC := Lib.hid hC
          have HL := Lib.hid hL
          have HX := Lib.hid hx
          have hc := hx.cst
          skip
          clear hx hK hC hL
          have q1 : ev (.tmp 9) = .pointer (some ⟨gd, 0, none⟩) := e9
          have hld := run_loadVar_row (P := Try.prog) w' gd 46 46 (macA d) (0, 0) _ ((HC.out.1.block gd (row_lt HD8.out) HDM.out).trans HD8.out) Try.underlying46 rfl (by kernel_rfl)
          unfold Run
          rw [rely_load 46 _ rfl q1 hld]
          exact HK.out _ _ (.inl ⟨Below.refl _ _, by decide⟩) rfl
        · intro L ev w' hC hL hx K hK
          have e46 := hx.held 1 _ rfl (by kernel_rfl)
          have e47 := hx.held 2 _ rfl (by kernel_rfl)
          have e48 := hx.held 3 _ rfl (by kernel_rfl)
          change ev (.tmp 46) = _ at e46
          change ev (.tmp 47) = _ at e47
          change ev (.tmp 48) = _ at e48
          have HK := Lib.hid hK
          have HC := Lib.hid hC
          have HL := Lib.hid hL
          have HX := Lib.hid hx
          have hc := hx.cst
          have hf := hx.fn
          clear hx hK hC hL
          have q46 : ev (.tmp 46) = .agg #[.int .i64 (P : Int), .slice A7 m c7] := e46
          have q48 : ev (.tmp 48) = .agg (macA d) := e48
          have hbr : BrT w' (.agg #[.int .i64 (P : Int), .slice A7 m c7]) P K8 := ⟨_, rfl, (KsT.own HO8.out).keep fun g D hg => HC.out.1.block g (row_lt hg) fun e => by
            subst e
            have := HM8.out
            rw [hg] at this
            injection this with this
            injection this with _ this
            exact absurd this (by decide)⟩
          unfold Run
          simp [execOp, Upon, go_sem, *]
          refine (out_any _ P K8 q d w' hbr (Nat.le_trans HKK.out (by decide)) HPP.out).mono ?_
          rintro e w2 ⟨v, rfl, ho, hb⟩
          exact ⟨v, rfl, HK.out _ _ (.inl ⟨hb, by decide⟩) (ownk_base ho (Nat.le_trans HLT8.out HC.out.1.size))⟩
        · intro L ev w' hC hL hx K hK
          have e6 : ev (.tmp 6) = _ := hx.base 6 (by kernel_rfl)
          have e45 := hx.held 0 _ rfl (by kernel_rfl)
          change ev (.tmp 45) = _ at e45
          have HK := Lib.hid hK
          have HC := Lib.hid hC
          have HL := Lib.hid hL
          have HX := Lib.hid hx
          have hc := hx.cst
          skip
          clear hx hK hC hL
          have hl5 : L 5 = false := HL.out
          have hgh := HC.out.2
          rw [hl5] at hgh
          have qp : ev (.tmp 6) = .pointer (some ⟨M, 0, none⟩) := e6
          have qv : ev (.tmp 45) = .agg #[.int .i64 (P : Int), .slice A7 m c7] := e45
          have hst := run_storeVar_row (P := Try.prog) w' M 27 27 B2 #[.int .i64 (P : Int), .slice A7 m c7] hgh (by kernel_rfl) rfl (B2_ones _ _ _ _)
          unfold Run
          rw [rely_store 27 _ _ rfl qp qv hst]
          refine HK.out _ _ (.inr ⟨⟨gro_set HC.out.1 hgh rfl, ?_⟩, fun j hj hlj u hr => ?_⟩) trivial
          · have := setRow_heap w' M B2 #[.int .i64 (P : Int), .slice A7 m c7] _ _ hgh
            rw [this]
            rfl
          · rcases j with _ | _ | _ | _ | _ | _ | _ | _ | j
            · exact hr
            · exact hr
            · exact hr
            · exact hr
            · exact ownk_other hr hgh (by decide) fun j hj => setRow_other _ _ _ _ hj
            · exact absurd rfl hj
            · exact ownk_other hr hgh (by decide) fun j hj => setRow_other _ _ _ _ hj
            · exact hr
            · exact trivial
        · intro L ev w' hC hL hx K hK
          have e49 := hx.held 4 _ rfl (by kernel_rfl)
          change (OwnR N 3 1 (outX P K8 q d).length (ints (outX P K8 q d)) : Pred) (ev (.tmp 49)) w' at e49
          have HK := Lib.hid hK
          have HC := Lib.hid hC
          have HL := Lib.hid hL
          have HX := Lib.hid hx
          have hc := hx.cst
          skip
          clear hx hK hC hL
          have HE := Lib.hid e49
          obtain ⟨A9, c9, q49, -⟩ := ownk_form HE.out
          rw [q49] at HE
          clear e49
          unfold Run
          simp [execOp, Upon, go_sem, *]
          exact HK.out _ _ (.inl ⟨Below.refl _ _, by decide⟩) HE.out
        · intro L ev w' hC hL hx K hK
          have HK := Lib.hid hK
          have HC := Lib.hid hC
          have HL := Lib.hid hL
          have HX := Lib.hid hx
          have hc := hx.cst
          skip
          clear hx hK hC hL
          unfold Run
          simp [execOp, Upon, go_sem, *]
          exact HK.out _ _ (.inl ⟨Below.refl _ _, by decide⟩) rfl
      · exact rl_mono ⟨is_mono _, is_mono _, is_mono _, is_mono _, ownr_mono _ _ _ _ _, any_mono, ownr_mono _ _ _ _ _, is_mono _, trivial⟩
      · exact fun L L' w' h hg => by rw [← h 5 (by simp)]; exact hg
      · exact fun L w' w'' hb hg => ⟨hg.1.trans (Gro.of hb), (hb.block _ (row_lt hg.2)).trans hg.2⟩
      · exact ⟨Gro.refl _, HM8.out⟩
      · simp
      intro us wr hG hH
      have HG := Lib.hid hG
      obtain ⟨-, -, -, -, -, -, h6, h7, -⟩ := hH
      simp only [fillM]
      change (OwnR N 3 1 (outX P K8 q d).length (ints (outX P K8 q d)) : Pred) (us 7) wr at h6
      change us 8 = _ at h7
      rw [h7]
      clear h7
      generalize us 45 = v45
      generalize us 46 = v46
      generalize us 47 = v47
      generalize us 48 = v48
      generalize us 49 = v49
      generalize us 7 = v7 at h6 ⊢
      have H6 := Lib.hid h6
      have HGM : Hid (wr.heap[M]? = some (.cells #[.int .i64 (P : Int), .slice A7 m c7] 27 (0, 0))) := HG.out.2
      clear h6 hG
      go_wp2
      refine ret_three (g := M) (cs := #[.int .i64 (P : Int), .slice A7 m c7]) rfl rfl HGM.out Try.underlying27 rfl (by kernel_rfl) rfl ?_
      rw [HX8.out]
      unfold FwPost
      rw [HNE.out]
      refine ⟨_, _, rfl, ⟨_, rfl, (KsT.own HO8.out).keep fun g D hg => HG.out.1.block g (row_lt hg) fun e => ?_⟩, IsT.own H6.out, HB8.out.trans (HG.out.1.below (fun k hk => by rw [hk]; exact HLT.out.2) HLT8.out)⟩
      subst e
      have := HM8.out
      rw [hg] at this
      injection this with this
      injection this with _ this
      exact absurd this (by decide)
end Go.Proofs.Ytecbelnmdimnkaa
