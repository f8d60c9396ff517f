/-
  heap.Load. Every right heap, every place, every number. No condition beyond that.
-/
import Derived.Test.YtagajijjcjfopaaStoreH
namespace Go.Proofs.Ytagajijjcjfopaa
open Go.RowKit

/-- what Load answers: bytes, error -/
def loadO (B : List UInt8) (L : List Bk) (x n : Int) : List UInt8 × Int :=
  if n < 0 then ([], 1) else if givenB L x n = true then ((B.drop x.toNat).take n.toNat, 0) else ([], 2)
def BytesPost (w : World) (r : List UInt8 × Int) (e : Ending) (w' : World) : Prop :=
  ∃ u, e = .returned (.tuple #[u, .int .i64 r.2]) ∧ w'.ownsRow w.heap.size 5 1 u r.1.length (cells r.1) ∧ Below w.heap.size w w'

set_option maxRecDepth 100000 in
set_option maxHeartbeats 400000 in
theorem load_any {B : List UInt8} {L : List Bk} {D : List Bool} {base : Nat} {v : Value} (x n : Int) (w : World) (hv : Hp base B L D v w) (hR : RightH B L D) (hx : I64 x) (hn : I64 n) :
    Calls Try.prog 21 #[v, .int .i64 x, .int .i64 n] w (BytesPost w (loadO B L x n)) := by
  unfold BytesPost
  have HVV := Lib.hid hv
  obtain ⟨v1, v2, v3, rfl, hv⟩ := hv
  have HB1 := Lib.hid ((Below.refl w.heap.size w).alloc (Nat.le_refl _) (.cells #[v1, v2, v3] 29))
  have HG1 := Lib.hid (heap_alloc_new w (.cells #[v1, v2, v3] 29))
  have HC := Lib.hid (given_any x n (w.alloc (.cells #[v1, v2, v3] 29)) (HVV.out.alloc _) hR hx hn)
  have HBL := Lib.hid hR.blk
  have hb := hR.bytes
  have hown1 := hv.1
  obtain ⟨nb, hnb⟩ : ∃ k, B.length = k := ⟨_, rfl⟩
  rw [hnb] at hown1 hb
  have HNB := Lib.hid hnb
  obtain ⟨A1, c1, rfl, hnc, hcm, hA⟩ := ownk_form hown1
  have hcm2 : c1 ≤ 9223372036854775807 := by unfold maxLen at hcm; omega
  have HRD := Lib.hid (ownk_rd hown1)
  unfold I64 at hx hn
  clear hv hR hnb hown1 hcm HVV
  by_cases q1 : n < 0
  · have HV : Hid (loadO B L x n = ([], 1)) := by show _ = _; unfold loadO; rw [if_pos q1]
    rw [HV.out]
    go_enter Try.func21, Try.ntmps21
    go_wp2
    go_ret2
    exact ⟨_, rfl, World.ownsRow_nil _ _ _ _, HB1.out⟩
  · obtain ⟨m, rfl⟩ : ∃ m : Nat, n = (m : Int) := ⟨n.toNat, by omega⟩
    obtain ⟨y0, y1, y2⟩ := three_cells HG1.out
    cases hgv : givenB L x (m : Int) with
    | false =>
      have HV : Hid (loadO B L x (m : Int) = ([], 2)) := by show _ = _; unfold loadO; rw [if_neg q1, hgv]; rfl
      rw [hgv] at HC
      rw [HV.out]
      clear hgv
      go_enter Try.func21, Try.ntmps21
      go_wp2_with fail
      refine HC.out.mono ?_
      rintro e w2 ⟨rfl, hb2⟩
      have HB2 := Lib.hid (HB1.out.trans (hb2.mono HB1.out.size))
      clear hb2
      go_wp2
      go_ret2
      exact ⟨_, rfl, World.ownsRow_nil _ _ _ _, HB2.out⟩
    | true =>
      have hin := given_in (n := (m : Int)) HBL.out (by omega) hgv
      rw [HNB.out] at hin
      obtain ⟨a, rfl⟩ : ∃ a : Nat, x = (a : Int) := ⟨x.toNat, by omega⟩
      have HV : Hid (loadO B L (a : Int) (m : Int) = ((B.drop a).take m, 0)) := by show _ = _; unfold loadO; rw [if_neg q1, if_pos hgv, Int.toNat_natCast, Int.toNat_natCast]
      rw [hgv] at HC
      rw [HV.out]
      have ham : a + m ≤ nb := by omega
      have ham2 : (a : Int) + (m : Int) ≤ (c1 : Int) := by omega
      have HLN : Hid (((B.drop a).take m).length = m) := by show _ = _; rw [List.length_take, List.length_drop, HNB.out]; omega
      clear hgv hin
      have hfin : ∀ (A : Option Addr) (cc : Nat) (w2 : World), Below w.heap.size w w2 → (A = none → cc = 0) → Rd w2 base w.heap.size A (cells ((B.drop a).take m)) → Calls Try.prog 33 #[.slice A m cc] w2 fun e w' => ∃ v, e = .returned v ∧ w'.ownsRow w2.heap.size 5 1 v m (cells ((B.drop a).take m)) ∧ Below w2.heap.size w2 w' := fun A cc w2 hb2 hA2 hrd =>
        cloneb_any A _ m cc base w.heap.size w2 hrd hb2.size (by rw [cells_length, HLN.out, Nat.mul_one]) (cells_one _) hA2 (by omega)
      have HFIN := Lib.hid hfin
      clear hfin
      by_cases hca : c1 = a
      · have hm0 : m = 0 := by omega
        subst hm0
        have hcb := hca.symm
        subst hcb
        go_enter Try.func21, Try.ntmps21
        go_wp2_with fail
        refine HC.out.mono ?_
        rintro e w2 ⟨rfl, hb2⟩
        obtain ⟨z0, z1, z2⟩ := three_cells (old_below HG1.out hb2 (row_lt HG1.out))
        have HB2 := Lib.hid (HB1.out.trans (hb2.mono HB1.out.size))
        clear hb2 y0 y1 y2
        go_wp2_with fail
        refine (HFIN.out _ _ w2 HB2.out (fun _ => by omega) (by rw [List.take_zero]; exact Rd.nil)).mono ?_
        rintro e w3 ⟨u, rfl, ho, hb3⟩
        have HO := Lib.hid (ownk_base ho HB2.out.size)
        have HB3 := Lib.hid (HB2.out.trans (hb3.mono HB2.out.size))
        clear ho hb3
        go_wp2
        go_ret2
        refine ⟨_, rfl, ?_, HB3.out⟩
        rw [HLN.out]
        exact HO.out
      · go_enter Try.func21, Try.ntmps21
        go_wp2_with fail
        refine HC.out.mono ?_
        rintro e w2 ⟨rfl, hb2⟩
        obtain ⟨z0, z1, z2⟩ := three_cells (old_below HG1.out hb2 (row_lt HG1.out))
        have HB2 := Lib.hid (HB1.out.trans (hb2.mono HB1.out.size))
        clear hb2 y0 y1 y2
        go_wp2_with fail
        refine (HFIN.out _ _ w2 HB2.out (fun h => by have := hA (by simpa using h); omega) (by rw [← cells_take, ← cells_drop]; exact ((HRD.out.below HB2.out (Nat.le_refl _)).drop a).take m)).mono ?_
        rintro e w3 ⟨u, rfl, ho, hb3⟩
        have HO := Lib.hid (ownk_base ho HB2.out.size)
        have HB3 := Lib.hid (HB2.out.trans (hb3.mono HB2.out.size))
        clear ho hb3
        go_wp2
        go_ret2
        refine ⟨_, rfl, ?_, HB3.out⟩
        rw [HLN.out]
        exact HO.out
end Go.Proofs.Ytagajijjcjfopaa
