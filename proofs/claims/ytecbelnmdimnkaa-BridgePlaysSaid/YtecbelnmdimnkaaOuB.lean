/-
  bridge.except, bridge.Find, bridge.out: at which port a card is, by which ports a frame goes out. No condition.
-/
import Derived.Test.YtecbelnmdimnkaaSeB
import Derived.Test.YtecbelnmdimnkaaDiB
import Derived.Lib.QuietBelow
import Derived.BigQuiet
namespace Go.Proofs.Ytecbelnmdimnkaa
open Go.RowKit

theorem quiet_load_row {P : Program} {ops : Array Oper} {C : World → Prop} {K : Act → Prop} {o : Oper} {a : Act} (hg : Region.wanted o (yielded ops a.tmps) = true) (ty : TypeId) (x : Operand) (ho : o.op = .load ty x) (g : Nat) (hx : a.eval x = .pointer (some ⟨g, 0, none⟩)) (t : TypeId) (cs : Array Value) (fr : Nat × Nat) (d : TypeDesc)
    (hgg : ∀ w, C w → w.heap[g]? = some (.cells cs t fr)) (hu : P.underlying ty = some d) (hd : d.isRow = true) (hi : (P.info? ty).map (·.size) = some cs.size) (h : K (a.put o.dst (.agg cs))) :
    if Region.wanted o (yielded ops a.tmps) = true then o.quiet P a C K else K (a.put o.dst undef) := by
  rw [if_pos hg]
  refine ⟨.agg cs, fun w hw => ?_, h⟩
  have hl := run_loadVar_row (P := P) w g t ty cs fr d (hgg w hw) hu (by cases d <;> first | rfl | cases hd) hi
  unfold Oper.quietAt execOp
  simp only [ho, hx, Instr.loadAt, Instr.sureAddr, Sem.run_bind, Sem.run_pure, Result.andThen_ok, hl]
  exact ⟨rfl, rfl⟩
theorem quiet_load_at {P : Program} {ops : Array Oper} {C : World → Prop} {K : Act → Prop} {o : Oper} {a : Act} (hg : Region.wanted o (yielded ops a.tmps) = true) (ty : TypeId) (x : Operand) (ho : o.op = .load ty x) (ad : Addr) (hx : a.eval x = .pointer (some ad)) (cs : Array Value) (d : TypeDesc)
    (hgg : ∀ w, C w → ∀ (j : Nat) v, cs[j]? = some v → w.cell? (ad.add j) = some v) (hu : P.underlying ty = some d) (hd : d.isRow = true) (hi : (P.info? ty).map (·.size) = some cs.size) (h : K (a.put o.dst (.agg cs))) :
    if Region.wanted o (yielded ops a.tmps) = true then o.quiet P a C K else K (a.put o.dst undef) := by
  rw [if_pos hg]
  refine ⟨.agg cs, fun w hw => ?_, h⟩
  have hl := run_loadVar_any (P := P) w ad ty cs.toList d (fun j v hv => hgg w hw j v (by simpa using hv)) hu hd (by rw [hi, Array.length_toList])
  rw [Array.toArray_toList] at hl
  unfold Oper.quietAt execOp
  simp only [ho, hx, Instr.loadAt, Instr.sureAddr, Sem.run_bind, Sem.run_pure, Result.andThen_ok, hl]
  exact ⟨rfl, rfl⟩
abbrev Reg (w : World) (w' : World) : Prop := ∃ p : Regrown, w' = Sort.grow (redrawn w p.d) p.os
theorem reg_row {w : World} {b : Nat} {o : Obj} (h : w.heap[b]? = some o) : ∀ w', Reg w w' → w'.heap[b]? = some o := fun w' ⟨p, e⟩ => by
  rw [e, (below_regrown w p.d p.os).block _ (row_lt h)]
  exact h
theorem reg_cells {w : World} {ad : Addr} {cs : Array Value} (h : ∀ (j : Nat) v, cs[j]? = some v → w.cell? (ad.add j) = some v) : ∀ w', Reg w w' → ∀ (j : Nat) v, cs[j]? = some v → w'.cell? (ad.add j) = some v := fun w' ⟨p, e⟩ j v hv => by
  rw [e]
  exact cell_regrown (h j v hv) p.d p.os

theorem exc_any (v : Value) (L : List Nat) (q lo : Nat) (w : World) (hown : w.ownsRow lo 3 1 v L.length (ints L)) (hl : L.length ≤ 1000) (hlo : lo ≤ w.heap.size) :
    Calls Try.prog 28 #[v, .int .i64 (q : Int)] w fun e w' => ∃ v', e = .returned v' ∧ w'.ownsRow lo 3 1 v' (keepP L q).length (ints (keepP L q)) ∧ Below lo w w' := by
  have HO1 := Lib.hid (ownk_below hown ((Below.refl w.heap.size w).alloc (Nat.le_refl _) (.cells #[.int .i64 (q : Int)] 3)) (Nat.le_refl _))
  have HB1 := Lib.hid ((Below.refl lo w).alloc hlo (.cells #[.int .i64 (q : Int)] 3))
  have HX1 := Lib.hid (heap_alloc_new w (.cells #[.int .i64 (q : Int)] 3))
  have HL := Lib.hid hl
  have HLO := Lib.hid hlo
  have HBN : Hid (v.ownBlock ≠ some w.heap.size) := fun e => by
    have := (hown.lt _ e).2
    omega
  clear hown hl hlo
  go_enter Try.func28, Try.ntmps28
  go_wp2_with fail
  refine (del1_any v L q w.heap.size lo _ HO1.out HL.out HX1.out HBN.out).mono ?_
  rintro e w2 ⟨v2, rfl, hown2, hgr, -⟩
  have HB2 : Hid (Below lo w w2) := HB1.out.grown hgr (by have := HLO.out; simp; omega) fun g hg => (HO1.out.lt g hg).1
  have HO2 := Lib.hid hown2
  clear hown2 hgr
  go_wp2
  go_ret
  exact ⟨_, rfl, HO2.out, HB2.out⟩

/-- at which port a card is -/
def findX (K : List Ln) (a : Mac) : Nat × Bool := match K.find? (isM a) with | some l => (l.p, true) | none => (0, false)
theorem findX_some {K : List Ln} {a : Mac} {k : Nat} {h : Ln} (hk : K[k]? = some h) (hf : isM a h = true) (hno : ∀ j h, j < k → K[j]? = some h → isM a h = false) : K.find? (isM a) = some h := by
  rw [List.find?_eq_some_iff_getElem]
  refine ⟨hf, k, (List.getElem?_eq_some_iff.1 hk).1, (List.getElem?_eq_some_iff.1 hk).2, fun j hj => ?_⟩
  rw [hno j _ hj (List.getElem?_eq_getElem _)]
  rfl
theorem findX_none {K : List Ln} {a : Mac} (hno : ∀ j h, j < K.length → K[j]? = some h → isM a h = false) : K.find? (isM a) = none := by
  rw [List.find?_eq_none]
  intro x hx
  obtain ⟨j, hj, rfl⟩ := List.mem_iff_getElem.1 hx
  rw [hno j _ hj (List.getElem?_eq_getElem hj)]
  simp
set_option maxRecDepth 100000 in
set_option maxHeartbeats 2000000 in
theorem find_any (v : Value) (P : Nat) (K : List Ln) (a : Mac) (w : World) (hv : BrT w v P K) (hl : K.length ≤ 1000) :
    Calls Try.prog 13 #[v, .agg (macA a)] w fun e w' => e = .returned (.tuple #[.int .i64 ((findX K a).1 : Int), .bool (findX K a).2]) ∧ Below w.heap.size w w' := by
  obtain ⟨s, rfl, A, c, rfl, htr, _⟩ := hv
  obtain ⟨n, hnn⟩ : ∃ n, K.length = n := ⟨_, rfl⟩
  rw [hnn] at hl ⊢
  obtain ⟨w1, hw1⟩ : ∃ w1, (w.alloc (.cells #[.int .i64 (P : Int), .slice A n c] 27)).alloc (.cells (macA a) 46) = w1 := ⟨_, rfl⟩
  have HB1 : Hid (Below w.heap.size w w1) := by rw [← hw1]; exact ((Below.refl _ _).alloc (Nat.le_refl _) _).alloc (by simp) _
  have HX1 : Hid (w1.heap[w.heap.size + 1]? = some (.cells (macA a) 46 (0, 0))) := by rw [← hw1]; exact new_at1 w _ _
  have HTR : Hid (Tr w1 0 58 A (lns K)) := htr.below HB1.out (Nat.le_refl _)
  have HW := Lib.hid hw1
  have HN := Lib.hid hnn
  clear hnn htr hw1
  go_enter Try.func13, Try.ntmps13
  go_wp2
  rw [HW.out]
  clear HW
  generalize w.heap.size + 1 = b at HX1 ⊢
  go_loopw [11] (fun t11 wr => ∃ k : Nat, k ≤ n ∧ t11 = .int .i64 (k : Int) ∧ Hid (∀ j h, j < k → K[j]? = some h → isM a h = false) ∧ Hid (Below w1.heap.size w1 wr)) (fun t11 _ => n - (intOf t11).toNat)
  case atStart => exact ⟨0, Nat.zero_le _, rfl, Lib.hid (fun j h hj => by omega), Lib.hid (Below.refl _ _)⟩
  case round =>
    obtain ⟨k, hk, rfl, HNO, HBEL⟩ := hrel
    have HBW := Lib.hid (HB1.out.trans (HBEL.out.mono HB1.out.size))
    by_cases hlt : k < n
    · obtain ⟨h, hh⟩ : ∃ h, K[k]? = some h := ⟨_, List.getElem?_eq_getElem (by rw [HN.out]; exact hlt)⟩
      obtain ⟨ad, rfl, hel⟩ := ln_cells (HTR.out.below HBEL.out (Nat.le_refl _)) hh
      have HEL := Lib.hid hel
      have HHK := Lib.hid hh
      have HX2 := Lib.hid (old_alloc (old_below HX1.out HBEL.out (row_lt HX1.out)) (.cells (lnA h) 58))
      have HC : Hid (∀ (j : Nat) v, (macA h.m)[j]? = some v → (wr.alloc (.cells (lnA h) 58)).cell? ((⟨wr.heap.size, 0, none⟩ : Addr).add j) = some v) := fun j v hv => by
        rw [Addr.add_mid, Nat.zero_add, cell_of_row _ _ _ _ _ _ (heap_alloc_new wr _)]
        exact lnA_mac h j v hv
      have hcp : (wr.alloc (.cells (lnA h) 58)).cell? ⟨wr.heap.size, 6, none⟩ = some (.int .i64 (h.p : Int)) := by
        rw [cell_of_row _ _ _ _ _ _ (heap_alloc_new wr _)]
        exact lnA_port h
      have heq : ∀ w, (Op.equalIn 10000 46 (.agg (macA h.m)) (.agg (macA a))).run Try.prog w = .ok (isM a h) w := eq_mac 9998 h.m a
      obtain ⟨C, hC⟩ : ∃ C, lnA h = C := ⟨_, rfl⟩
      obtain ⟨M, hM⟩ : ∃ M, macA h.m = M := ⟨_, rfl⟩
      have HSC : Hid (C.size = 7) := by rw [← hC]; exact lnA_size h
      have HSM : Hid (M.size = 6) := by rw [← hM]; exact macA_size h.m
      have HOC : Hid (C.all (·.oneCell') = true) := by rw [← hC]; exact lnA_one h
      rw [hM] at HC heq
      rw [hC] at HEL HX2 HC hcp
      clear hC hM
      have HB2 := Lib.hid (HBEL.out.alloc HBEL.out.size (.cells C 58))
      have HBW2 := Lib.hid (HBW.out.alloc HBW.out.size (.cells C 58))
      clear hh hel HBW
      cases hbl : isM a h
      · have HN2 : Hid (∀ j h, j < k + 1 → K[j]? = some h → isM a h = false) := fun j h' hj hj2 => by
          by_cases hjk : j < k
          · exact HNO.out j h' hjk hj2
          · obtain rfl : j = k := by omega
            rw [HHK.out] at hj2
            injection hj2 with hj2
            rw [← hj2]
            exact hbl
        rw [hbl] at heq
        clear hbl
        go_upto_region 4 with (first | refine wpList_load_atA rfl 58 _ rfl (ad.add (k * 7)) rfl C _ HEL.out Try.underlying58 rfl (by rw [HSC.out]; kernel_rfl) ?_ | refine wpList_store_new rfl 58 _ _ rfl wr Z7 C rfl rfl (by rw [HSC.out]; kernel_rfl) (by rw [HSC.out]; rfl) HOC.out ?_)
        go_wp2_with (first | refine wpList_load_atA rfl 46 _ rfl ⟨wr.heap.size, 0, none⟩ rfl M _ HC.out Try.underlying46 rfl (by rw [HSM.out]; kernel_rfl) ?_ | refine wpList_load_row rfl 46 _ rfl b rfl 46 (macA a) (0, 0) _ HX2.out Try.underlying46 rfl (by kernel_rfl) ?_)
        go_roundw
        case rel => exact ⟨k + 1, by omega, by go_num, HN2, HB2⟩
        case measure => simp [intOf]; omega
      · have HV : Hid (findX K a = (h.p, true)) := by
          show _ = _
          unfold findX
          rw [findX_some HHK.out hbl HNO.out]
        rw [hbl] at heq
        clear hbl
        go_upto_region 4 with (first | refine wpList_load_atA rfl 58 _ rfl (ad.add (k * 7)) rfl C _ HEL.out Try.underlying58 rfl (by rw [HSC.out]; kernel_rfl) ?_ | refine wpList_store_new rfl 58 _ _ rfl wr Z7 C rfl rfl (by rw [HSC.out]; kernel_rfl) (by rw [HSC.out]; rfl) HOC.out ?_)
        go_wp2_with (first | refine wpList_load_atA rfl 46 _ rfl ⟨wr.heap.size, 0, none⟩ rfl M _ HC.out Try.underlying46 rfl (by rw [HSM.out]; kernel_rfl) ?_ | refine wpList_load_row rfl 46 _ rfl b rfl 46 (macA a) (0, 0) _ HX2.out Try.underlying46 rfl (by kernel_rfl) ?_)
        go_ret2
        exact ⟨by rw [HV.out]; rfl, HBW2.out⟩
    · obtain rfl : k = n := by omega
      have HV : Hid (findX K a = (0, false)) := by
        show _ = _
        unfold findX
        rw [findX_none fun j h hj hj2 => HNO.out j h (by rw [← HN.out]; exact hj) hj2]
      go_wp2
      go_ret2
      exact ⟨by rw [HV.out]; rfl, HBW.out⟩
end Go.Proofs.Ytecbelnmdimnkaa
