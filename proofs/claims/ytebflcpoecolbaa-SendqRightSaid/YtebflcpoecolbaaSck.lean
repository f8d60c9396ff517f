/-
  The code's Ack of layer 18. Every state that may be.
-/
import Derived.Test.YtebflcpoecolbaaSca
import Derived.Lib.MinMax
namespace Go.Proofs.Ytebflcpoecolbaa
open Go.RowKit

theorem wpList_slice_eq17 {P : Program} {w : World} {ops : Array Oper} {rest : List Oper} {o : Oper} {a : Act} {Q : Exit → Act → World → Prop} (hgd : o.guard = none) (t : TypeId) (x lo : Operand) (ho : o.op = .slice t x (some lo) none none) {e : TypeId} (hu : P.underlying t = some (.slice e)) {A : Option Addr} {n c : Nat} (hx : a.eval x = .slice A n c) {z : Value}
    (hr : ∀ W : World, (Instr.slice t (.slice A n c) (some (a.eval lo)) none none).run P W = .ok z W) (h : wpList P ops Q rest (a.put o.dst z) w) : wpList P ops Q (o :: rest) a w :=
  wpList_plain hgd fun K hK => by
    have h1 := run_sliceE (ev := a.eval) (o := o) t x (some lo) none ho hu hx (hr w)
    unfold Oper.wp
    rw [h1]
    exact hK _ _ h
theorem wpList_slice_eq18 {P : Program} {w : World} {ops : Array Oper} {rest : List Oper} {o : Oper} {a : Act} {Q : Exit → Act → World → Prop} (hgd : o.guard = none) (t : TypeId) (x lo : Operand) (ho : o.op = .slice t x (some lo) none none) {e : TypeId} (hu : P.underlying t = some (.slice e)) (A : Option Addr) (n c : Nat) (hx : a.eval x = .slice A n c) (l : Value) (hl : a.eval lo = l) {z : Value}
    (hr : ∀ W : World, (Instr.slice t (.slice A n c) (some l) none none).run P W = .ok z W) (h : wpList P ops Q rest (a.put o.dst z) w) : wpList P ops Q (o :: rest) a w := by
  subst hl
  exact wpList_slice_eq17 hgd t x lo ho hu hx hr h
theorem byt_drop18 {w : World} {S : Nat → Prop} {A : Option Addr} {c : Nat} {l : List UInt8} (h : Rv w S (.slice A l.length c) (bytesD l)) (a : Nat) (ha : a ≤ l.length) : Rv w S (.slice (if c = a then A else A.map (·.add (a * 1))) (l.length - a) (c - a)) (bytesD (l.drop a)) := by
  obtain ⟨A', c', e, h1, h2, h3, h4⟩ := rv_bytes.1 h
  injection e with e1 _ e3
  subst e1 e3
  have hl : (l.drop a).length = l.length - a := List.length_drop
  refine rv_bytes.2 ⟨(if c = a then A else A.map (·.add (a * 1))), c - a, by rw [hl], fun j u hj => ?_, fun hA => ?_, by omega, by omega⟩
  · have hjl : j < l.length - a := by
      have := (List.getElem?_eq_some_iff.1 hj).1
      rw [cells_length, hl] at this
      exact this
    have hj2 : (cells l)[a + j]? = some u := by
      rw [← hj]
      unfold cells
      rw [List.getElem?_map, List.getElem?_map, List.getElem?_drop]
    obtain ⟨ad, rfl, hS, hc⟩ := h1 (a + j) u hj2
    rw [if_neg (by omega)]
    exact ⟨ad.add (a * 1), rfl, by rw [blk_add]; exact hS, by rw [Nat.mul_one, add_twice]; exact hc⟩
  · by_cases hca : c = a
    · omega
    · rw [if_neg hca] at hA
      cases A with
      | none =>
        have := h2 rfl
        omega
      | some ad => cases hA
/-- how many numbers are out -/
def flQ (q : Sq) : Nat := if (q.fsent && !q.facked) = true then q.sent + 1 else q.sent
/-- the code's Ack: the state, how many, the error -/
def ackQ (q : Sq) (a : Int) : Sq := if 0 < diffS a q.una ∧ diffS a q.una ≤ flQ q then ⟨a, q.data.drop (min (diffS a q.una).toNat q.sent), q.sent - min (diffS a q.una).toNat q.sent, q.fin, q.fsent, q.facked || decide ((q.sent : Int) < diffS a q.una)⟩ else q
def ackQN (q : Sq) (a : Int) : Int := if 0 < diffS a q.una ∧ diffS a q.una ≤ flQ q then diffS a q.una else 0
def ackQE (q : Sq) (a : Int) : Int := if 0 < diffS a q.una ∧ (flQ q : Int) < diffS a q.una then 1 else 0
set_option maxRecDepth 100000 in
set_option maxHeartbeats 4000000 in
theorem ack18 (q : Sq) (v : Value) (S : Nat → Prop) (a : Int) (w : World) (hv : Rv w S v (bytesD q.data)) (hs : q.sent ≤ q.data.length) (hl : q.data.length ≤ 256) : Calls Try.prog 23 #[.agg (sqC q v), .int .u32 a] w fun e w' => ∃ v', e = .returned (.tuple #[.agg (sqC (ackQ q a) v'), .int .i64 (ackQN q a), .int .i64 (ackQE q a)]) ∧ Rv w' (fun b => w.heap.size + 2 ≤ b) v' (bytesD (ackQ q a).data) ∧ Below w.heap.size w w' := by
  obtain ⟨d, hd⟩ : ∃ d, diffS a q.una = d := ⟨_, rfl⟩
  obtain ⟨Q, hQ⟩ : ∃ Q, ackQ q a = Q := ⟨_, rfl⟩
  obtain ⟨M, hM⟩ : ∃ M, ackQN q a = M := ⟨_, rfl⟩
  obtain ⟨E, hE⟩ : ∃ E, ackQE q a = E := ⟨_, rfl⟩
  rw [hQ, hM, hE]
  unfold ackQ at hQ
  unfold ackQN at hM
  unfold ackQE at hE
  rw [hd] at hQ hM hE
  obtain ⟨fl, hfl⟩ : ∃ fl, flQ q = fl := ⟨_, rfl⟩
  rw [hfl] at hQ hM hE
  have hfl2 : fl ≤ q.sent + 1 ∧ q.sent ≤ fl := by rw [← hfl]; unfold flQ; split <;> omega
  have HQM := Lib.hid (And.intro hQ (And.intro hM hE))
  have HDD := Lib.hid hd
  have HFL : Hid (∀ (W : World) (v1 : Value) (S1 : Nat → Prop), Rv W S1 v1 (bytesD q.data) → Calls Try.prog 16 #[.agg (sqC q v1)] W fun e w' => e = .returned (.int .i64 (fl : Int)) ∧ Below W.heap.size W w') := fun W v1 S1 h => by
    rw [show (fl : Int) = if (q.fsent && !q.facked) = true then (q.sent : Int) + 1 else q.sent from by rw [← hfl]; unfold flQ; split <;> rfl]
    exact flight18 q v1 S1 W h hs hl
  have HSE : Hid (∀ (W : World) (q1 : Sq) (v1 : Value) (S1 : Nat → Prop), q1.sent = q.sent → q1.data = q.data → Rv W S1 v1 (bytesD q.data) → Calls Try.prog 30 #[.agg (sqC q1 v1)] W fun e w' => e = .returned (.int .i64 (q.sent : Int)) ∧ Below W.heap.size W w') := fun W q1 v1 S1 h1 h2 h => by
    rw [← h1]
    exact sent18 q1 v1 S1 W (by rw [h2]; exact h) (by rw [h1, h2]; exact hs) (by rw [h2]; exact hl)
  have HD := Lib.hid hv
  have HDL : Hid (q.data.length ≤ 1000000) := by show _ ≤ _; omega
  have hs2 : q.sent ≤ 256 := by omega
  have HSN := Lib.hid hs
  clear hv hQ hM hE hd hfl hl hs
  obtain ⟨w1, hw1⟩ : ∃ w1, (w.alloc (.cells (sqC q v) 28)).alloc (.cells (Zsq) 28) = w1 := ⟨_, rfl⟩
  have HB : Hid (Below w.heap.size w w1) := by rw [← hw1]; exact ((Below.refl _ _).alloc (Nat.le_refl _) _).alloc (by simp) _
  have HX : Hid (w1.heap[w.heap.size]? = some (.cells (sqC q v) 28 (0, 0))) := by rw [← hw1]; exact old_alloc (heap_alloc_new w _) _
  have HZ : Hid (w1.heap[w.heap.size + 1]? = some (.cells (Zsq) 28 (0, 0))) := by rw [← hw1]; exact new_at1 w _ _
  have HS1 : Hid (w1.heap.size = w.heap.size + 2) := by show _ = _; rw [← hw1]; simp
  have HW := Lib.hid hw1
  clear hw1
  go_enter Try.func23, Try.ntmps23
  go_upto_region 1 with (fail)
  change Code.wp _ _ _ _ ((w.alloc (.cells (sqC q v) 28)).alloc (.cells (Zsq) 28))
  rw [HW.out]
  clear HW
  go_wp2_with (refine wpList_load_row rfl 28 _ rfl w.heap.size rfl 28 (sqC q v) (0, 0) _ HX.out Try.underlying28 rfl (by kernel_rfl) ?_)
  refine (clone18 q v S w1 (rv_blw18 HD.out HB.out) HDL.out).mono ?_
  rintro e w2 ⟨v1, rfl, hv, hb2⟩
  have HO2 : Hid (w2.ownsRow (w.heap.size + 2) 5 1 v1 q.data.length (cells q.data)) := ownk_base hv (by have := HS1.out; omega)
  have HONE : Hid (v1.oneCell' = true) := own_one hv
  have HX2 : Hid (w2.heap[w.heap.size]? = some (.cells (sqC q v) 28 (0, 0))) := old_below HX.out hb2 (row_lt HX.out)
  have HZ2 : Hid (w2.heap[w.heap.size + 1]? = some (.cells (Zsq) 28 (0, 0))) := old_below HZ.out hb2 (row_lt HZ.out)
  have HB2 := Lib.hid (HB.out.trans (hb2.mono HB.out.size))
  clear hv hb2 HX HB HZ
  go_upto_region 2 with (first | (refine wpList_store_row rfl 28 _ _ rfl w.heap.size (sqC q v1) rfl rfl 28 (sqC q v) HX2.out (by kernel_rfl) rfl (sqc_ones HONE.out) ?_; obtain ⟨w3, hw3⟩ : ∃ x, w2.setRow w.heap.size (sqC q v1) = x := ⟨_, rfl⟩; have HX3 : Hid (w3.heap[w.heap.size]? = some (.cells (sqC q v1) 28 (0, 0))) := (by rw [← hw3]; exact setRow_heap _ _ _ _ _ _ HX2.out); have HZ3 : Hid (w3.heap[w.heap.size + 1]? = some (.cells (Zsq) 28 (0, 0))) := (by rw [← hw3]; exact (setRow_other _ _ _ _ (by omega)).trans HZ2.out); have HO3 : Hid (w3.ownsRow (w.heap.size + 2) 5 1 (v1) (q.data.length) ((cells q.data))) := (by rw [← hw3]; exact own_set18 HO2.out HX2.out (by decide) _); have HB3 : Hid (Below w.heap.size w w3) := (by rw [← hw3]; exact below_setRow HB2.out (by omega) _); have HSZ3 : Hid (w3.heap.size = w2.heap.size) := (by show _ = _; rw [← hw3]; simp [World.setRow]); have HW3 := Lib.hid hw3; clear hw3; rw [HW3.out]; clear HW3 HX2 HZ2 HO2 HB2) | go_in)
  have c0 : w3.cell? ⟨w.heap.size, 0, none⟩ = some (.int .u32 q.una) := by rw [cell_of_row _ _ _ _ _ _ HX3.out]; rfl
  go_wp2_with fail
  refine (seqdiff_any a q.una w3).mono ?_
  rintro e w4 ⟨rfl, rfl⟩
  rw [HDD.out]
  clear c0
  by_cases hd0 : d ≤ 0
  · have HQ : Hid (Q = q ∧ M = 0 ∧ E = 0) := ⟨by rw [← HQM.out.1, if_neg (by omega)], by rw [← HQM.out.2.1, if_neg (by omega)], by rw [← HQM.out.2.2, if_neg (by omega)]⟩
    go_wp2_with (first | (refine wpList_load_row rfl 28 _ rfl w.heap.size rfl 28 (sqC q v1) (0, 0) _ HX3.out Try.underlying28 rfl (by kernel_rfl) ?_) | (refine wpList_store_row rfl 28 _ _ rfl (w.heap.size + 1) (sqC q v1) rfl rfl 28 (Zsq) HZ3.out (by kernel_rfl) rfl (sqc_ones HONE.out) ?_))
    refine ret_three (g := w.heap.size + 1) rfl rfl (setRow_heap _ _ _ _ _ _ HZ3.out) Try.underlying28 rfl (by kernel_rfl) rfl ?_
    exact ⟨v1, by rw [HQ.out.1, HQ.out.2.1, HQ.out.2.2]; rfl, by rw [HQ.out.1]; exact own_rv (own_set18 HO3.out HZ3.out (by decide) _), below_setRow HB3.out (by omega) _⟩
  go_wp2_with (refine wpList_load_row rfl 28 _ rfl w.heap.size rfl 28 (sqC q v1) (0, 0) _ HX3.out Try.underlying28 rfl (by kernel_rfl) ?_)
  refine (HFL.out w3 v1 _ (own_rv HO3.out)).mono ?_
  rintro e w5 ⟨rfl, hb5⟩
  have HX5 := Lib.hid (old_below HX3.out hb5 (row_lt HX3.out))
  have HZ5 := Lib.hid (old_below HZ3.out hb5 (row_lt HZ3.out))
  have HO5 := Lib.hid (ownk_below HO3.out hb5 (Nat.le_refl _))
  have HB5 := Lib.hid (HB3.out.trans (hb5.mono HB3.out.size))
  clear hb5 HX3 HZ3 HO3 HB3
  by_cases hdf : (fl : Int) < d
  · have HQ : Hid (Q = q ∧ M = 0 ∧ E = 1) := ⟨by rw [← HQM.out.1, if_neg (by omega)], by rw [← HQM.out.2.1, if_neg (by omega)], by rw [← HQM.out.2.2, if_pos (by omega)]⟩
    go_wp2_with (first | (refine wpList_load_row rfl 28 _ rfl w.heap.size rfl 28 (sqC q v1) (0, 0) _ HX5.out Try.underlying28 rfl (by kernel_rfl) ?_) | (refine wpList_store_row rfl 28 _ _ rfl (w.heap.size + 1) (sqC q v1) rfl rfl 28 (Zsq) HZ5.out (by kernel_rfl) rfl (sqc_ones HONE.out) ?_))
    refine ret_three (g := w.heap.size + 1) rfl rfl (setRow_heap _ _ _ _ _ _ HZ5.out) Try.underlying28 rfl (by kernel_rfl) rfl ?_
    exact ⟨v1, by rw [HQ.out.1, HQ.out.2.1, HQ.out.2.2]; rfl, by rw [HQ.out.1]; exact own_rv (own_set18 HO5.out HZ5.out (by decide) _), below_setRow HB5.out (by omega) _⟩
  obtain ⟨k, hk⟩ : ∃ k, min d.toNat q.sent = k := ⟨_, rfl⟩
  obtain ⟨z, hz⟩ : ∃ z, q.sent - k = z := ⟨_, rfl⟩
  have HQ1 : Hid (Q = ⟨a, q.data.drop k, z, q.fin, q.fsent, q.facked || decide ((q.sent : Int) < d)⟩ ∧ M = d ∧ E = 0) := ⟨by rw [← HQM.out.1, if_pos (by omega), hk, hz], by rw [← HQM.out.2.1, if_pos (by omega)], by rw [← HQM.out.2.2, if_neg (by omega)]⟩
  have hkk : k ≤ q.sent ∧ (k : Int) = min d q.sent ∧ (q.sent < d → k < d) ∧ (d ≤ q.sent → (k : Int) = d) := by omega
  have HKK : Hid (k ≤ q.sent ∧ q.sent ≤ q.data.length) := ⟨hkk.1, HSN.out⟩
  have HKM := Lib.hid hkk.2.1
  have HKQ := Lib.hid hkk
  have hkq : k ≤ q.sent := hkk.1
  have hsub : (q.sent : Int) - (k : Int) = (z : Int) := by omega
  clear hkk hz
  go_wp2_with (refine wpList_load_row rfl 28 _ rfl w.heap.size rfl 28 (sqC q v1) (0, 0) _ HX5.out Try.underlying28 rfl (by kernel_rfl) ?_)
  refine (HSE.out w5 q v1 _ rfl rfl (own_rv HO5.out)).mono ?_
  rintro e w8 ⟨rfl, hb8⟩
  have HX8 := Lib.hid (old_below HX5.out hb8 (row_lt HX5.out))
  have HZ8 := Lib.hid (old_below HZ5.out hb8 (row_lt HZ5.out))
  have HO8 := Lib.hid (ownk_below HO5.out hb8 (Nat.le_refl _))
  have HB8 := Lib.hid (HB5.out.trans (hb8.mono HB5.out.size))
  clear hb8 HX5 HZ5 HO5 HB5
  go_upto_region 8 with (fail)
  rw [← HKM.out]
  obtain ⟨fa, hfa⟩ : ∃ fa, q.facked = fa := ⟨_, rfl⟩
  have HFA := Lib.hid hfa
  have c5 : w8.cell? ⟨w.heap.size, 5, none⟩ = some (.bool q.facked) := by rw [cell_of_row _ _ _ _ _ _ HX8.out]; rfl
  rw [hfa] at c5
  clear hfa hk
  cases fa
  · by_cases hsd : (q.sent : Int) < d
    · have HQ : Hid (Q = ⟨a, q.data.drop k, z, q.fin, q.fsent, true⟩ ∧ M = d ∧ E = 0) := ⟨by rw [HQ1.out.1, HFA.out, decide_eq_true hsd]; rfl, HQ1.out.2⟩
      have hkd : (k : Int) < d := HKQ.out.2.2.1 hsd
      go_upto_region 9 with (first | (refine wpList_store_fld rfl 4 _ _ rfl w.heap.size 5 rfl (.bool true) rfl 28 (sqC q v1) HX8.out (by show 5 < 6; omega) (by kernel_rfl) (rfl) (sqC { q with facked := true } v1) rfl ?_; obtain ⟨w9, hw9⟩ : ∃ x, w8.setRow w.heap.size (sqC { q with facked := true } v1) = x := ⟨_, rfl⟩; have HX9 : Hid (w9.heap[w.heap.size]? = some (.cells (sqC { q with facked := true } v1) 28 (0, 0))) := (by rw [← hw9]; exact setRow_heap _ _ _ _ _ _ HX8.out); have HZ9 : Hid (w9.heap[w.heap.size + 1]? = some (.cells (Zsq) 28 (0, 0))) := (by rw [← hw9]; exact (setRow_other _ _ _ _ (by omega)).trans HZ8.out); have HO9 : Hid (w9.ownsRow (w.heap.size + 2) 5 1 (v1) (q.data.length) ((cells q.data))) := (by rw [← hw9]; exact own_set18 HO8.out HX8.out (by decide) _); have HB9 : Hid (Below w.heap.size w w9) := (by rw [← hw9]; exact below_setRow HB8.out (by omega) _); have HSZ9 : Hid (w9.heap.size = w8.heap.size) := (by show _ = _; rw [← hw9]; simp [World.setRow]); have HW9 := Lib.hid hw9; clear hw9; rw [HW9.out]; clear HW9 HX8 HZ8 HO8 HB8) | go_in)
      go_wp2_with (refine wpList_load_row rfl 28 _ rfl w.heap.size rfl 28 (sqC { q with facked := true } v1) (0, 0) _ HX9.out Try.underlying28 rfl (by kernel_rfl) ?_)
      refine (HSE.out w9 { q with facked := true } v1 _ rfl rfl (own_rv HO9.out)).mono ?_
      rintro e w10 ⟨rfl, hb10⟩
      have HX10 := Lib.hid (old_below HX9.out hb10 (row_lt HX9.out))
      have HZ10 := Lib.hid (old_below HZ9.out hb10 (row_lt HZ9.out))
      have HO10 := Lib.hid (ownk_below HO9.out hb10 (Nat.le_refl _))
      have HB10 := Lib.hid (HB9.out.trans (hb10.mono HB9.out.size))
      clear hb10 HX9 HZ9 HO9 HB9
      go_upto_region 10 with (first | (refine wpList_store_fld rfl 3 _ _ rfl w.heap.size 2 rfl (.int .i64 (z : Int)) rfl 28 (sqC { q with facked := true } v1) HX10.out (by show 2 < 6; omega) (by kernel_rfl) (rfl) (sqC { q with facked := true, sent := z } v1) rfl ?_; obtain ⟨w11, hw11⟩ : ∃ x, w10.setRow w.heap.size (sqC { q with facked := true, sent := z } v1) = x := ⟨_, rfl⟩; have HX11 : Hid (w11.heap[w.heap.size]? = some (.cells (sqC { q with facked := true, sent := z } v1) 28 (0, 0))) := (by rw [← hw11]; exact setRow_heap _ _ _ _ _ _ HX10.out); have HZ11 : Hid (w11.heap[w.heap.size + 1]? = some (.cells (Zsq) 28 (0, 0))) := (by rw [← hw11]; exact (setRow_other _ _ _ _ (by omega)).trans HZ10.out); have HO11 : Hid (w11.ownsRow (w.heap.size + 2) 5 1 (v1) (q.data.length) ((cells q.data))) := (by rw [← hw11]; exact own_set18 HO10.out HX10.out (by decide) _); have HB11 : Hid (Below w.heap.size w w11) := (by rw [← hw11]; exact below_setRow HB10.out (by omega) _); have HSZ11 : Hid (w11.heap.size = w10.heap.size) := (by show _ = _; rw [← hw11]; simp [World.setRow]); have HW11 := Lib.hid hw11; clear hw11; rw [HW11.out]; clear HW11 HX10 HZ10 HO10 HB10) | go_in)
      obtain ⟨Av, cv, rfl, hc51, hc52, -⟩ := ownk_form HO11.out
      have HPT := byt_drop18 (own_rv HO11.out) k (by have := HKK.out; omega)
      obtain ⟨At, hAt⟩ : ∃ At : Option Addr, (if cv = k then Av else Av.map (·.add (k * 1))) = At := ⟨_, rfl⟩
      obtain ⟨nt, hnt⟩ : ∃ nt, q.data.length - k = nt := ⟨_, rfl⟩
      obtain ⟨ct, hct⟩ : ∃ ct, cv - k = ct := ⟨_, rfl⟩
      rw [hAt, hnt, hct] at HPT
      have HR11 := Lib.hid HPT
      have HSLC : Hid (∀ W : World, (Instr.slice 26 (.slice Av q.data.length cv) (some (.int .i64 (k : Int))) none none).run Try.prog W = .ok (.slice At nt ct) W) := fun W => by
        rw [← hAt, ← hnt, ← hct]
        exact run_slice_l (P := Try.prog) 26 5 1 Try.underlying26 (by kernel_rfl) Av q.data.length cv k (by have := HKK.out; omega) W
      clear HPT hAt hnt hct HO11
      have c1 : w11.cell? ⟨w.heap.size, 1, none⟩ = some (.slice Av q.data.length cv) := by rw [cell_of_row _ _ _ _ _ _ HX11.out]; rfl
      go_upto_region 11 with (first | (refine wpList_slice_eq18 rfl 26 _ _ rfl Try.underlying26 Av q.data.length cv rfl (.int .i64 (k : Int)) rfl HSLC.out ?_; clear c1) | (refine wpList_store_fld rfl 26 _ _ rfl w.heap.size 1 rfl (.slice At nt ct) rfl 28 (sqC { q with facked := true, sent := z } (.slice Av q.data.length cv)) HX11.out (by show 1 < 6; omega) (by kernel_rfl) (rfl) (sqC { q with facked := true, sent := z } (.slice At nt ct)) rfl ?_; obtain ⟨w12, hw12⟩ : ∃ x, w11.setRow w.heap.size (sqC { q with facked := true, sent := z } (.slice At nt ct)) = x := ⟨_, rfl⟩; have HX12 : Hid (w12.heap[w.heap.size]? = some (.cells (sqC { q with facked := true, sent := z } (.slice At nt ct)) 28 (0, 0))) := (by rw [← hw12]; exact setRow_heap _ _ _ _ _ _ HX11.out); have HZ12 : Hid (w12.heap[w.heap.size + 1]? = some (.cells (Zsq) 28 (0, 0))) := (by rw [← hw12]; exact (setRow_other _ _ _ _ (by omega)).trans HZ11.out); have HR12 : Hid (Rv w12 (fun b => (w.heap.size + 2) ≤ b) (.slice At nt ct) (bytesD ((q.data.drop k)))) := (by rw [← hw12]; exact HR11.out.setRow (show ¬ ((w.heap.size + 2) ≤ w.heap.size) by omega) _); have HB12 : Hid (Below w.heap.size w w12) := (by rw [← hw12]; exact below_setRow HB11.out (by omega) _); have HSZ12 : Hid (w12.heap.size = w11.heap.size) := (by show _ = _; rw [← hw12]; simp [World.setRow]); have HW12 := Lib.hid hw12; clear hw12; rw [HW12.out]; clear HW12 HX11 HZ11 HR11 HB11) | go_in)
      go_upto_region 12 with (first | (refine wpList_store_fld rfl 22 _ _ rfl w.heap.size 0 rfl (.int .u32 a) rfl 28 (sqC { q with facked := true, sent := z } (.slice At nt ct)) HX12.out (by show 0 < 6; omega) (by kernel_rfl) (rfl) (sqC { q with facked := true, sent := z, una := a } (.slice At nt ct)) rfl ?_; obtain ⟨w13, hw13⟩ : ∃ x, w12.setRow w.heap.size (sqC { q with facked := true, sent := z, una := a } (.slice At nt ct)) = x := ⟨_, rfl⟩; have HX13 : Hid (w13.heap[w.heap.size]? = some (.cells (sqC { q with facked := true, sent := z, una := a } (.slice At nt ct)) 28 (0, 0))) := (by rw [← hw13]; exact setRow_heap _ _ _ _ _ _ HX12.out); have HZ13 : Hid (w13.heap[w.heap.size + 1]? = some (.cells (Zsq) 28 (0, 0))) := (by rw [← hw13]; exact (setRow_other _ _ _ _ (by omega)).trans HZ12.out); have HR13 : Hid (Rv w13 (fun b => (w.heap.size + 2) ≤ b) (.slice At nt ct) (bytesD ((q.data.drop k)))) := (by rw [← hw13]; exact HR12.out.setRow (show ¬ ((w.heap.size + 2) ≤ w.heap.size) by omega) _); have HB13 : Hid (Below w.heap.size w w13) := (by rw [← hw13]; exact below_setRow HB12.out (by omega) _); have HSZ13 : Hid (w13.heap.size = w12.heap.size) := (by show _ = _; rw [← hw13]; simp [World.setRow]); have HW13 := Lib.hid hw13; clear hw13; rw [HW13.out]; clear HW13 HX12 HZ12 HR12 HB12) | go_in)
      go_wp2_with (first | (refine wpList_load_row rfl 28 _ rfl w.heap.size rfl 28 (sqC { q with facked := true, sent := z, una := a } (.slice At nt ct)) (0, 0) _ HX13.out Try.underlying28 rfl (by kernel_rfl) ?_) | (refine wpList_store_row rfl 28 _ _ rfl (w.heap.size + 1) (sqC { q with facked := true, sent := z, una := a } (.slice At nt ct)) rfl rfl 28 (Zsq) HZ13.out (by kernel_rfl) rfl (sqc_ones rfl) ?_))
      refine ret_three (g := w.heap.size + 1) rfl rfl (setRow_heap _ _ _ _ _ _ HZ13.out) Try.underlying28 rfl (by kernel_rfl) rfl ?_
      refine ⟨_, by rw [HQ.out.1, HQ.out.2.1, HQ.out.2.2]; rfl, ?_, below_setRow HB13.out (by omega) _⟩
      rw [HQ.out.1]
      exact HR13.out.setRow (by omega) _
    · have HQ : Hid (Q = ⟨a, q.data.drop k, z, q.fin, q.fsent, false⟩ ∧ M = d ∧ E = 0) := ⟨by rw [HQ1.out.1, HFA.out, decide_eq_false hsd]; rfl, HQ1.out.2⟩
      have hkd2 : ¬ (k : Int) < d := by have := HKQ.out.2.2.2 (by omega); omega
      go_upto_region 9 with (first | (refine wpList_store_fld rfl 4 _ _ rfl w.heap.size 5 rfl (.bool false) rfl 28 (sqC q v1) HX8.out (by show 5 < 6; omega) (by kernel_rfl) (rfl) (sqC { q with facked := false } v1) rfl ?_; obtain ⟨w9, hw9⟩ : ∃ x, w8.setRow w.heap.size (sqC { q with facked := false } v1) = x := ⟨_, rfl⟩; have HX9 : Hid (w9.heap[w.heap.size]? = some (.cells (sqC { q with facked := false } v1) 28 (0, 0))) := (by rw [← hw9]; exact setRow_heap _ _ _ _ _ _ HX8.out); have HZ9 : Hid (w9.heap[w.heap.size + 1]? = some (.cells (Zsq) 28 (0, 0))) := (by rw [← hw9]; exact (setRow_other _ _ _ _ (by omega)).trans HZ8.out); have HO9 : Hid (w9.ownsRow (w.heap.size + 2) 5 1 (v1) (q.data.length) ((cells q.data))) := (by rw [← hw9]; exact own_set18 HO8.out HX8.out (by decide) _); have HB9 : Hid (Below w.heap.size w w9) := (by rw [← hw9]; exact below_setRow HB8.out (by omega) _); have HSZ9 : Hid (w9.heap.size = w8.heap.size) := (by show _ = _; rw [← hw9]; simp [World.setRow]); have HW9 := Lib.hid hw9; clear hw9; rw [HW9.out]; clear HW9 HX8 HZ8 HO8 HB8) | go_in)
      go_wp2_with (refine wpList_load_row rfl 28 _ rfl w.heap.size rfl 28 (sqC { q with facked := false } v1) (0, 0) _ HX9.out Try.underlying28 rfl (by kernel_rfl) ?_)
      refine (HSE.out w9 { q with facked := false } v1 _ rfl rfl (own_rv HO9.out)).mono ?_
      rintro e w10 ⟨rfl, hb10⟩
      have HX10 := Lib.hid (old_below HX9.out hb10 (row_lt HX9.out))
      have HZ10 := Lib.hid (old_below HZ9.out hb10 (row_lt HZ9.out))
      have HO10 := Lib.hid (ownk_below HO9.out hb10 (Nat.le_refl _))
      have HB10 := Lib.hid (HB9.out.trans (hb10.mono HB9.out.size))
      clear hb10 HX9 HZ9 HO9 HB9
      go_upto_region 10 with (first | (refine wpList_store_fld rfl 3 _ _ rfl w.heap.size 2 rfl (.int .i64 (z : Int)) rfl 28 (sqC { q with facked := false } v1) HX10.out (by show 2 < 6; omega) (by kernel_rfl) (rfl) (sqC { q with facked := false, sent := z } v1) rfl ?_; obtain ⟨w11, hw11⟩ : ∃ x, w10.setRow w.heap.size (sqC { q with facked := false, sent := z } v1) = x := ⟨_, rfl⟩; have HX11 : Hid (w11.heap[w.heap.size]? = some (.cells (sqC { q with facked := false, sent := z } v1) 28 (0, 0))) := (by rw [← hw11]; exact setRow_heap _ _ _ _ _ _ HX10.out); have HZ11 : Hid (w11.heap[w.heap.size + 1]? = some (.cells (Zsq) 28 (0, 0))) := (by rw [← hw11]; exact (setRow_other _ _ _ _ (by omega)).trans HZ10.out); have HO11 : Hid (w11.ownsRow (w.heap.size + 2) 5 1 (v1) (q.data.length) ((cells q.data))) := (by rw [← hw11]; exact own_set18 HO10.out HX10.out (by decide) _); have HB11 : Hid (Below w.heap.size w w11) := (by rw [← hw11]; exact below_setRow HB10.out (by omega) _); have HSZ11 : Hid (w11.heap.size = w10.heap.size) := (by show _ = _; rw [← hw11]; simp [World.setRow]); have HW11 := Lib.hid hw11; clear hw11; rw [HW11.out]; clear HW11 HX10 HZ10 HO10 HB10) | go_in)
      obtain ⟨Av, cv, rfl, hc51, hc52, -⟩ := ownk_form HO11.out
      have HPT := byt_drop18 (own_rv HO11.out) k (by have := HKK.out; omega)
      obtain ⟨At, hAt⟩ : ∃ At : Option Addr, (if cv = k then Av else Av.map (·.add (k * 1))) = At := ⟨_, rfl⟩
      obtain ⟨nt, hnt⟩ : ∃ nt, q.data.length - k = nt := ⟨_, rfl⟩
      obtain ⟨ct, hct⟩ : ∃ ct, cv - k = ct := ⟨_, rfl⟩
      rw [hAt, hnt, hct] at HPT
      have HR11 := Lib.hid HPT
      have HSLC : Hid (∀ W : World, (Instr.slice 26 (.slice Av q.data.length cv) (some (.int .i64 (k : Int))) none none).run Try.prog W = .ok (.slice At nt ct) W) := fun W => by
        rw [← hAt, ← hnt, ← hct]
        exact run_slice_l (P := Try.prog) 26 5 1 Try.underlying26 (by kernel_rfl) Av q.data.length cv k (by have := HKK.out; omega) W
      clear HPT hAt hnt hct HO11
      have c1 : w11.cell? ⟨w.heap.size, 1, none⟩ = some (.slice Av q.data.length cv) := by rw [cell_of_row _ _ _ _ _ _ HX11.out]; rfl
      go_upto_region 11 with (first | (refine wpList_slice_eq18 rfl 26 _ _ rfl Try.underlying26 Av q.data.length cv rfl (.int .i64 (k : Int)) rfl HSLC.out ?_; clear c1) | (refine wpList_store_fld rfl 26 _ _ rfl w.heap.size 1 rfl (.slice At nt ct) rfl 28 (sqC { q with facked := false, sent := z } (.slice Av q.data.length cv)) HX11.out (by show 1 < 6; omega) (by kernel_rfl) (rfl) (sqC { q with facked := false, sent := z } (.slice At nt ct)) rfl ?_; obtain ⟨w12, hw12⟩ : ∃ x, w11.setRow w.heap.size (sqC { q with facked := false, sent := z } (.slice At nt ct)) = x := ⟨_, rfl⟩; have HX12 : Hid (w12.heap[w.heap.size]? = some (.cells (sqC { q with facked := false, sent := z } (.slice At nt ct)) 28 (0, 0))) := (by rw [← hw12]; exact setRow_heap _ _ _ _ _ _ HX11.out); have HZ12 : Hid (w12.heap[w.heap.size + 1]? = some (.cells (Zsq) 28 (0, 0))) := (by rw [← hw12]; exact (setRow_other _ _ _ _ (by omega)).trans HZ11.out); have HR12 : Hid (Rv w12 (fun b => (w.heap.size + 2) ≤ b) (.slice At nt ct) (bytesD ((q.data.drop k)))) := (by rw [← hw12]; exact HR11.out.setRow (show ¬ ((w.heap.size + 2) ≤ w.heap.size) by omega) _); have HB12 : Hid (Below w.heap.size w w12) := (by rw [← hw12]; exact below_setRow HB11.out (by omega) _); have HSZ12 : Hid (w12.heap.size = w11.heap.size) := (by show _ = _; rw [← hw12]; simp [World.setRow]); have HW12 := Lib.hid hw12; clear hw12; rw [HW12.out]; clear HW12 HX11 HZ11 HR11 HB11) | go_in)
      go_upto_region 12 with (first | (refine wpList_store_fld rfl 22 _ _ rfl w.heap.size 0 rfl (.int .u32 a) rfl 28 (sqC { q with facked := false, sent := z } (.slice At nt ct)) HX12.out (by show 0 < 6; omega) (by kernel_rfl) (rfl) (sqC { q with facked := false, sent := z, una := a } (.slice At nt ct)) rfl ?_; obtain ⟨w13, hw13⟩ : ∃ x, w12.setRow w.heap.size (sqC { q with facked := false, sent := z, una := a } (.slice At nt ct)) = x := ⟨_, rfl⟩; have HX13 : Hid (w13.heap[w.heap.size]? = some (.cells (sqC { q with facked := false, sent := z, una := a } (.slice At nt ct)) 28 (0, 0))) := (by rw [← hw13]; exact setRow_heap _ _ _ _ _ _ HX12.out); have HZ13 : Hid (w13.heap[w.heap.size + 1]? = some (.cells (Zsq) 28 (0, 0))) := (by rw [← hw13]; exact (setRow_other _ _ _ _ (by omega)).trans HZ12.out); have HR13 : Hid (Rv w13 (fun b => (w.heap.size + 2) ≤ b) (.slice At nt ct) (bytesD ((q.data.drop k)))) := (by rw [← hw13]; exact HR12.out.setRow (show ¬ ((w.heap.size + 2) ≤ w.heap.size) by omega) _); have HB13 : Hid (Below w.heap.size w w13) := (by rw [← hw13]; exact below_setRow HB12.out (by omega) _); have HSZ13 : Hid (w13.heap.size = w12.heap.size) := (by show _ = _; rw [← hw13]; simp [World.setRow]); have HW13 := Lib.hid hw13; clear hw13; rw [HW13.out]; clear HW13 HX12 HZ12 HR12 HB12) | go_in)
      go_wp2_with (first | (refine wpList_load_row rfl 28 _ rfl w.heap.size rfl 28 (sqC { q with facked := false, sent := z, una := a } (.slice At nt ct)) (0, 0) _ HX13.out Try.underlying28 rfl (by kernel_rfl) ?_) | (refine wpList_store_row rfl 28 _ _ rfl (w.heap.size + 1) (sqC { q with facked := false, sent := z, una := a } (.slice At nt ct)) rfl rfl 28 (Zsq) HZ13.out (by kernel_rfl) rfl (sqc_ones rfl) ?_))
      refine ret_three (g := w.heap.size + 1) rfl rfl (setRow_heap _ _ _ _ _ _ HZ13.out) Try.underlying28 rfl (by kernel_rfl) rfl ?_
      refine ⟨_, by rw [HQ.out.1, HQ.out.2.1, HQ.out.2.2]; rfl, ?_, below_setRow HB13.out (by omega) _⟩
      rw [HQ.out.1]
      exact HR13.out.setRow (by omega) _
  · have HQ : Hid (Q = ⟨a, q.data.drop k, z, q.fin, q.fsent, true⟩ ∧ M = d ∧ E = 0) := ⟨by rw [HQ1.out.1, HFA.out]; rfl, HQ1.out.2⟩
    go_upto_region 9 with (first | (refine wpList_store_fld rfl 4 _ _ rfl w.heap.size 5 rfl (.bool true) rfl 28 (sqC q v1) HX8.out (by show 5 < 6; omega) (by kernel_rfl) (rfl) (sqC { q with facked := true } v1) rfl ?_; obtain ⟨w9, hw9⟩ : ∃ x, w8.setRow w.heap.size (sqC { q with facked := true } v1) = x := ⟨_, rfl⟩; have HX9 : Hid (w9.heap[w.heap.size]? = some (.cells (sqC { q with facked := true } v1) 28 (0, 0))) := (by rw [← hw9]; exact setRow_heap _ _ _ _ _ _ HX8.out); have HZ9 : Hid (w9.heap[w.heap.size + 1]? = some (.cells (Zsq) 28 (0, 0))) := (by rw [← hw9]; exact (setRow_other _ _ _ _ (by omega)).trans HZ8.out); have HO9 : Hid (w9.ownsRow (w.heap.size + 2) 5 1 (v1) (q.data.length) ((cells q.data))) := (by rw [← hw9]; exact own_set18 HO8.out HX8.out (by decide) _); have HB9 : Hid (Below w.heap.size w w9) := (by rw [← hw9]; exact below_setRow HB8.out (by omega) _); have HSZ9 : Hid (w9.heap.size = w8.heap.size) := (by show _ = _; rw [← hw9]; simp [World.setRow]); have HW9 := Lib.hid hw9; clear hw9; rw [HW9.out]; clear HW9 HX8 HZ8 HO8 HB8) | go_in)
    go_wp2_with (refine wpList_load_row rfl 28 _ rfl w.heap.size rfl 28 (sqC { q with facked := true } v1) (0, 0) _ HX9.out Try.underlying28 rfl (by kernel_rfl) ?_)
    refine (HSE.out w9 { q with facked := true } v1 _ rfl rfl (own_rv HO9.out)).mono ?_
    rintro e w10 ⟨rfl, hb10⟩
    have HX10 := Lib.hid (old_below HX9.out hb10 (row_lt HX9.out))
    have HZ10 := Lib.hid (old_below HZ9.out hb10 (row_lt HZ9.out))
    have HO10 := Lib.hid (ownk_below HO9.out hb10 (Nat.le_refl _))
    have HB10 := Lib.hid (HB9.out.trans (hb10.mono HB9.out.size))
    clear hb10 HX9 HZ9 HO9 HB9
    go_upto_region 10 with (first | (refine wpList_store_fld rfl 3 _ _ rfl w.heap.size 2 rfl (.int .i64 (z : Int)) rfl 28 (sqC { q with facked := true } v1) HX10.out (by show 2 < 6; omega) (by kernel_rfl) (rfl) (sqC { q with facked := true, sent := z } v1) rfl ?_; obtain ⟨w11, hw11⟩ : ∃ x, w10.setRow w.heap.size (sqC { q with facked := true, sent := z } v1) = x := ⟨_, rfl⟩; have HX11 : Hid (w11.heap[w.heap.size]? = some (.cells (sqC { q with facked := true, sent := z } v1) 28 (0, 0))) := (by rw [← hw11]; exact setRow_heap _ _ _ _ _ _ HX10.out); have HZ11 : Hid (w11.heap[w.heap.size + 1]? = some (.cells (Zsq) 28 (0, 0))) := (by rw [← hw11]; exact (setRow_other _ _ _ _ (by omega)).trans HZ10.out); have HO11 : Hid (w11.ownsRow (w.heap.size + 2) 5 1 (v1) (q.data.length) ((cells q.data))) := (by rw [← hw11]; exact own_set18 HO10.out HX10.out (by decide) _); have HB11 : Hid (Below w.heap.size w w11) := (by rw [← hw11]; exact below_setRow HB10.out (by omega) _); have HSZ11 : Hid (w11.heap.size = w10.heap.size) := (by show _ = _; rw [← hw11]; simp [World.setRow]); have HW11 := Lib.hid hw11; clear hw11; rw [HW11.out]; clear HW11 HX10 HZ10 HO10 HB10) | go_in)
    obtain ⟨Av, cv, rfl, hc51, hc52, -⟩ := ownk_form HO11.out
    have HPT := byt_drop18 (own_rv HO11.out) k (by have := HKK.out; omega)
    obtain ⟨At, hAt⟩ : ∃ At : Option Addr, (if cv = k then Av else Av.map (·.add (k * 1))) = At := ⟨_, rfl⟩
    obtain ⟨nt, hnt⟩ : ∃ nt, q.data.length - k = nt := ⟨_, rfl⟩
    obtain ⟨ct, hct⟩ : ∃ ct, cv - k = ct := ⟨_, rfl⟩
    rw [hAt, hnt, hct] at HPT
    have HR11 := Lib.hid HPT
    have HSLC : Hid (∀ W : World, (Instr.slice 26 (.slice Av q.data.length cv) (some (.int .i64 (k : Int))) none none).run Try.prog W = .ok (.slice At nt ct) W) := fun W => by
      rw [← hAt, ← hnt, ← hct]
      exact run_slice_l (P := Try.prog) 26 5 1 Try.underlying26 (by kernel_rfl) Av q.data.length cv k (by have := HKK.out; omega) W
    clear HPT hAt hnt hct HO11
    have c1 : w11.cell? ⟨w.heap.size, 1, none⟩ = some (.slice Av q.data.length cv) := by rw [cell_of_row _ _ _ _ _ _ HX11.out]; rfl
    go_upto_region 11 with (first | (refine wpList_slice_eq18 rfl 26 _ _ rfl Try.underlying26 Av q.data.length cv rfl (.int .i64 (k : Int)) rfl HSLC.out ?_; clear c1) | (refine wpList_store_fld rfl 26 _ _ rfl w.heap.size 1 rfl (.slice At nt ct) rfl 28 (sqC { q with facked := true, sent := z } (.slice Av q.data.length cv)) HX11.out (by show 1 < 6; omega) (by kernel_rfl) (rfl) (sqC { q with facked := true, sent := z } (.slice At nt ct)) rfl ?_; obtain ⟨w12, hw12⟩ : ∃ x, w11.setRow w.heap.size (sqC { q with facked := true, sent := z } (.slice At nt ct)) = x := ⟨_, rfl⟩; have HX12 : Hid (w12.heap[w.heap.size]? = some (.cells (sqC { q with facked := true, sent := z } (.slice At nt ct)) 28 (0, 0))) := (by rw [← hw12]; exact setRow_heap _ _ _ _ _ _ HX11.out); have HZ12 : Hid (w12.heap[w.heap.size + 1]? = some (.cells (Zsq) 28 (0, 0))) := (by rw [← hw12]; exact (setRow_other _ _ _ _ (by omega)).trans HZ11.out); have HR12 : Hid (Rv w12 (fun b => (w.heap.size + 2) ≤ b) (.slice At nt ct) (bytesD ((q.data.drop k)))) := (by rw [← hw12]; exact HR11.out.setRow (show ¬ ((w.heap.size + 2) ≤ w.heap.size) by omega) _); have HB12 : Hid (Below w.heap.size w w12) := (by rw [← hw12]; exact below_setRow HB11.out (by omega) _); have HSZ12 : Hid (w12.heap.size = w11.heap.size) := (by show _ = _; rw [← hw12]; simp [World.setRow]); have HW12 := Lib.hid hw12; clear hw12; rw [HW12.out]; clear HW12 HX11 HZ11 HR11 HB11) | go_in)
    go_upto_region 12 with (first | (refine wpList_store_fld rfl 22 _ _ rfl w.heap.size 0 rfl (.int .u32 a) rfl 28 (sqC { q with facked := true, sent := z } (.slice At nt ct)) HX12.out (by show 0 < 6; omega) (by kernel_rfl) (rfl) (sqC { q with facked := true, sent := z, una := a } (.slice At nt ct)) rfl ?_; obtain ⟨w13, hw13⟩ : ∃ x, w12.setRow w.heap.size (sqC { q with facked := true, sent := z, una := a } (.slice At nt ct)) = x := ⟨_, rfl⟩; have HX13 : Hid (w13.heap[w.heap.size]? = some (.cells (sqC { q with facked := true, sent := z, una := a } (.slice At nt ct)) 28 (0, 0))) := (by rw [← hw13]; exact setRow_heap _ _ _ _ _ _ HX12.out); have HZ13 : Hid (w13.heap[w.heap.size + 1]? = some (.cells (Zsq) 28 (0, 0))) := (by rw [← hw13]; exact (setRow_other _ _ _ _ (by omega)).trans HZ12.out); have HR13 : Hid (Rv w13 (fun b => (w.heap.size + 2) ≤ b) (.slice At nt ct) (bytesD ((q.data.drop k)))) := (by rw [← hw13]; exact HR12.out.setRow (show ¬ ((w.heap.size + 2) ≤ w.heap.size) by omega) _); have HB13 : Hid (Below w.heap.size w w13) := (by rw [← hw13]; exact below_setRow HB12.out (by omega) _); have HSZ13 : Hid (w13.heap.size = w12.heap.size) := (by show _ = _; rw [← hw13]; simp [World.setRow]); have HW13 := Lib.hid hw13; clear hw13; rw [HW13.out]; clear HW13 HX12 HZ12 HR12 HB12) | go_in)
    go_wp2_with (first | (refine wpList_load_row rfl 28 _ rfl w.heap.size rfl 28 (sqC { q with facked := true, sent := z, una := a } (.slice At nt ct)) (0, 0) _ HX13.out Try.underlying28 rfl (by kernel_rfl) ?_) | (refine wpList_store_row rfl 28 _ _ rfl (w.heap.size + 1) (sqC { q with facked := true, sent := z, una := a } (.slice At nt ct)) rfl rfl 28 (Zsq) HZ13.out (by kernel_rfl) rfl (sqc_ones rfl) ?_))
    refine ret_three (g := w.heap.size + 1) rfl rfl (setRow_heap _ _ _ _ _ _ HZ13.out) Try.underlying28 rfl (by kernel_rfl) rfl ?_
    refine ⟨_, by rw [HQ.out.1, HQ.out.2.1, HQ.out.2.2]; rfl, ?_, below_setRow HB13.out (by omega) _⟩
    rw [HQ.out.1]
    exact HR13.out.setRow (by omega) _
end Go.Proofs.Ytebflcpoecolbaa
