/-
  AddrNets returns true for every three addresses and every two numbers, and turns nothing that was there.
-/
import Derived.Test.YtbahkilfcfbolaaDoorTexts
import Derived.Test.YtbahkilfcfbolaaDoorShape
namespace Go.Proofs.YtbahkilfcfbolaaDoor
open Go.RowKit

theorem within_lit (x0 x1 x2 x3 y0 y1 y2 y3 : UInt8) (b : Int) (w : World) :
    Calls Tryd.prog 23 #[.agg (ip4 x0 x1 x2 x3), .agg (ip4 y0 y1 y2 y3), .int .i64 b] w fun e w' => e = .returned (.bool (withinS [x0, x1, x2, x3] [y0, y1, y2, y3] b)) ∧ Below w.heap.size w w' := within_any [x0, x1, x2, x3] [y0, y1, y2, y3] b w rfl rfl

theorem withinS_true {a n : List UInt8} {m : Nat} (hm : m ≤ 32) : withinS a n m = true ↔ getV a / 2 ^ (32 - m) = getV n / 2 ^ (32 - m) := by
  unfold withinS
  rw [show ((32 : Int) - (m : Int)).toNat = 32 - m from by omega, decide_eq_true_iff]
  constructor
  · exact fun h => h.2.2
  · exact fun h => ⟨by omega, by omega, h⟩
theorem withinS_self (a : List UInt8) (m : Nat) (hm : m ≤ 32) : withinS a a m = true := (withinS_true hm).2 rfl
theorem withinS_trans {a b c : List UInt8} {m : Nat} (hm : m ≤ 32) (h1 : withinS a b m = true) (h2 : withinS b c m = true) : withinS a c m = true :=
  (withinS_true hm).2 (((withinS_true hm).1 h1).trans ((withinS_true hm).1 h2))
theorem withinS_fewer {a b : List UInt8} {m k : Nat} (hm : m ≤ 32) (hk : k ≤ m) (h : withinS a b m = true) : withinS a b k = true := by
  refine (withinS_true (by omega)).2 ?_
  have e : ∀ x : Nat, x / 2 ^ (32 - k) = x / 2 ^ (32 - m) / 2 ^ (m - k) := fun x => by
    rw [Nat.div_div_eq_div_mul, ← Nat.pow_add, show 32 - m + (m - k) = 32 - k from by omega]
  rw [e, e, (withinS_true hm).1 h]
theorem withinS_above (a b : List UInt8) (m : Int) (hm : 32 < m) : withinS a b m = false := by
  unfold withinS
  exact decide_eq_false (by omega)

theorem i64_and7 (n : Int) : bits .and .i64 n 7 = n % 8 := by
  have h7 : (BitVec.ofInt 64 7).toNat = 2 ^ 3 - 1 := by decide
  have key : (BitVec.ofInt 64 n &&& BitVec.ofInt 64 7).toNat = (n % ((2 ^ 64 : Nat) : Int)).toNat % 2 ^ 3 := by
    rw [BitVec.toNat_and, BitVec.toNat_ofInt, h7, Nat.and_two_pow_sub_one_eq_mod]
  show IntKind.i64.wrap ((BitVec.ofInt 64 n &&& BitVec.ofInt 64 7).toNat : Nat) = n % 8
  rw [key, IntKind.wrap_i64]
  omega
/-- three addresses, as the frames tell of them -/
theorem rep_rep_bytes {w : World} {cs : List Value} (h : (Sh.rep 3 (.rep 4 (.num .u8))).ok w cs) : ∃ l : List UInt8, l.length = 12 ∧ cs = cells l := by
  obtain ⟨h0, h1⟩ := h
  have h2 : ∀ i, i < 3 → ∃ l : List UInt8, l.length = 4 ∧ (cs.drop (i * 4)).take 4 = cells l := fun i hi => rep_bytes (h1 i hi)
  obtain ⟨a, ha, e0⟩ := h2 0 (by omega)
  obtain ⟨b, hb, e1⟩ := h2 1 (by omega)
  obtain ⟨c, hc, e2⟩ := h2 2 (by omega)
  refine ⟨a ++ (b ++ c), by simp [ha, hb, hc], ?_⟩
  rw [cells_append, cells_append, ← e0, ← e1, ← e2]
  have hl : cs.length = 12 := h0
  match cs, hl with
  | [v0, v1, v2, v3, v4, v5, v6, v7, v8, v9, v10, v11], _ => rfl

theorem twelve {w : World} {b : Nat} {t : TypeId} {v0 v1 v2 v3 v4 v5 v6 v7 v8 v9 v10 v11 : Value} (h : w.heap[b]? = some (.cells #[v0, v1, v2, v3, v4, v5, v6, v7, v8, v9, v10, v11] t (0, 0))) :
    w.cell? ⟨b, 0, none⟩ = some v0 ∧ w.cell? ⟨b, 1, none⟩ = some v1 ∧ w.cell? ⟨b, 2, none⟩ = some v2 ∧ w.cell? ⟨b, 3, none⟩ = some v3 ∧ w.cell? ⟨b, 4, none⟩ = some v4 ∧ w.cell? ⟨b, 5, none⟩ = some v5 ∧ w.cell? ⟨b, 6, none⟩ = some v6 ∧ w.cell? ⟨b, 7, none⟩ = some v7 ∧ w.cell? ⟨b, 8, none⟩ = some v8 ∧ w.cell? ⟨b, 9, none⟩ = some v9 ∧ w.cell? ⟨b, 10, none⟩ = some v10 ∧ w.cell? ⟨b, 11, none⟩ = some v11 := by
  refine ⟨?_, ?_, ?_, ?_, ?_, ?_, ?_, ?_, ?_, ?_, ?_, ?_⟩
  all_goals
    rw [cell_of_row _ _ _ _ _ _ h]
    rfl
set_option maxRecDepth 100000 in
set_option maxHeartbeats 4000000 in
theorem nets_walk (l : List UInt8) (b m : Int) (w : World) (hl : l.length = 12) (hR : Ready w) :
    Calls Tryd.prog 7 #[.agg (cells l).toArray, .int .i64 b, .int .i64 m] w fun e w' => e = .returned (.bool true) ∧ Below w.heap.size w w' := by
  obtain ⟨x0, x1, x2, x3, y0, y1, y2, y3, z0, z1, z2, z3, rfl⟩ : ∃ x0 x1 x2 x3 y0 y1 y2 y3 z0 z1 z2 z3 : UInt8, l = [x0, x1, x2, x3, y0, y1, y2, y3, z0, z1, z2, z3] := by
    match l, hl with
    | [x0, x1, x2, x3, y0, y1, y2, y3, z0, z1, z2, z3], _ => exact ⟨x0, x1, x2, x3, y0, y1, y2, y3, z0, z1, z2, z3, rfl⟩
  have hca : (cells [x0, x1, x2, x3, y0, y1, y2, y3, z0, z1, z2, z3]).toArray = ip4 x0 x1 x2 x3 ++ ip4 y0 y1 y2 y3 ++ ip4 z0 z1 z2 z3 := rfl
  rw [hca]
  simp only [ip4, List.append_toArray, List.cons_append, List.nil_append]
  go_enter Tryd.func7, Tryd.ntmps7
  go_wp2_with fail
  have HB0 := Lib.hid ((Below.refl w.heap.size w).alloc (Nat.le_refl _) (.cells #[.int .u8 (x0.toNat : Int), .int .u8 (x1.toNat : Int), .int .u8 (x2.toNat : Int), .int .u8 (x3.toNat : Int), .int .u8 (y0.toNat : Int), .int .u8 (y1.toNat : Int), .int .u8 (y2.toNat : Int), .int .u8 (y3.toNat : Int), .int .u8 (z0.toNat : Int), .int .u8 (z1.toNat : Int), .int .u8 (z2.toNat : Int), .int .u8 (z3.toNat : Int)] 52))
  have HX0 := Lib.hid (heap_alloc_new w (.cells #[.int .u8 (x0.toNat : Int), .int .u8 (x1.toNat : Int), .int .u8 (x2.toNat : Int), .int .u8 (x3.toNat : Int), .int .u8 (y0.toNat : Int), .int .u8 (y1.toNat : Int), .int .u8 (y2.toNat : Int), .int .u8 (y3.toNat : Int), .int .u8 (z0.toNat : Int), .int .u8 (z1.toNat : Int), .int .u8 (z2.toNat : Int), .int .u8 (z3.toNat : Int)] 52))
  refine (lives_any _ (hR.below HB0.out (Nat.le_refl _))).mono ?_
  rintro e w1 ⟨rfl, hb⟩
  have HB1 := Lib.hid (HB0.out.trans (hb.mono HB0.out.size))
  have HX1 := Lib.hid ((hb.block _ (row_lt HX0.out)).trans HX0.out)
  clear hb hca hl
  obtain ⟨c0, c1, c2, c3, c4, c5, c6, c7, c8, c9, c10, c11⟩ := twelve HX1.out
  obtain ⟨k, hk, hk32⟩ : ∃ k : Nat, (IntKind.u64.wrap b).tmod 33 = (k : Int) ∧ k ≤ 32 := by
    have h0 : 0 ≤ IntKind.u64.wrap b := by
      rw [IntKind.wrap_u64]
      omega
    refine ⟨((IntKind.u64.wrap b).tmod 33).toNat, ?_, ?_⟩
    all_goals
      rw [Int.tmod_eq_emod_of_nonneg h0]
      omega
  obtain ⟨j, hj, hj32⟩ : ∃ j : Nat, (IntKind.u64.wrap m).tmod (33 - (k : Int)) = (j : Int) ∧ k + j ≤ 32 := by
    have h0 : 0 ≤ IntKind.u64.wrap m := by
      rw [IntKind.wrap_u64]
      omega
    have h1 : 0 < 33 - (k : Int) := by omega
    have h2 := Int.emod_lt_of_pos (IntKind.u64.wrap m) h1
    have h3 := Int.emod_nonneg (IntKind.u64.wrap m) (show 33 - (k : Int) ≠ 0 by omega)
    refine ⟨((IntKind.u64.wrap m).tmod (33 - (k : Int))).toNat, ?_, ?_⟩
    all_goals
      rw [Int.tmod_eq_emod_of_nonneg h0]
      omega
  have hw : IntKind.u64.wrap (33 - (k : Int)) = 33 - (k : Int) := IntWalk.u64_in _ ⟨by omega, by omega⟩
  have hnz : ¬ (33 - (k : Int)) = 0 := by omega
  obtain ⟨c, hc, hc7⟩ : ∃ c : Nat, bits .and .i64 m 7 = (c : Int) ∧ c ≤ 7 := by
    refine ⟨(m % 8).toNat, ?_, by omega⟩
    rw [i64_and7]
    omega
  have H01F : Hid (∀ (_ : withinS [x0, x1, x2, x3] [y0, y1, y2, y3] (k : Int) = false), withinS [x0, x1, x2, x3] [y0, y1, y2, y3] ((k : Int) + (j : Int)) = false) := fun h => by
    by_cases h2 : withinS [x0, x1, x2, x3] [y0, y1, y2, y3] ((k : Int) + (j : Int)) = true
    · have e : ((k : Int) + (j : Int)) = ((k + j : Nat) : Int) := by omega
      rw [e] at h2
      rw [withinS_fewer hj32 (Nat.le_add_right k j) h2] at h
      cases h
    · simpa using h2
  have H02T : Hid (withinS [x0, x1, x2, x3] [y0, y1, y2, y3] (k : Int) = true → withinS [y0, y1, y2, y3] [z0, z1, z2, z3] (k : Int) = true → withinS [x0, x1, x2, x3] [z0, z1, z2, z3] (k : Int) = true) := fun h1 h2 => withinS_trans hk32 h1 h2
  have HS : Hid (withinS [x0, x1, x2, x3] [x0, x1, x2, x3] ((k : Int) + (j : Int)) = true) := by
    have e : ((k : Int) + (j : Int)) = ((k + j : Nat) : Int) := by omega
    show _ = _
    rw [e]
    exact withinS_self _ _ hj32
  have HO : Hid (withinS [x0, x1, x2, x3] [x0, x1, x2, x3] (33 + (c : Int)) = false) := withinS_above _ _ _ (by omega)
  by_cases h01 : withinS [x0, x1, x2, x3] [y0, y1, y2, y3] (k : Int) = true
  · have K01 := Lib.hid h01
    clear h01
    by_cases h12 : withinS [y0, y1, y2, y3] [z0, z1, z2, z3] (k : Int) = true
    · have K12 := Lib.hid h12
      have K02 := Lib.hid (H02T.out K01.out h12)
      clear h12
      by_cases hn : withinS [x0, x1, x2, x3] [y0, y1, y2, y3] ((k : Int) + (j : Int)) = true
      · have KN := Lib.hid hn
        clear hn
        go_wp2_with fail
        refine (within_lit _ _ _ _ _ _ _ _ _ _).mono ?_
        rintro e w2 ⟨rfl, hb⟩
        rw [K01.out]
        have HB2 := Lib.hid (HB1.out.trans (hb.mono HB1.out.size))
        have HX2 := Lib.hid ((hb.block _ (row_lt HX1.out)).trans HX1.out)
        clear hb c0 c1 c2 c3 c4 c5 c6 c7 c8 c9 c10 c11
        obtain ⟨c0, c1, c2, c3, c4, c5, c6, c7, c8, c9, c10, c11⟩ := twelve HX2.out
        go_wp2_with fail
        refine (within_lit _ _ _ _ _ _ _ _ _ _).mono ?_
        rintro e w3 ⟨rfl, hb⟩
        rw [K12.out]
        have HB3 := Lib.hid (HB2.out.trans (hb.mono HB2.out.size))
        have HX3 := Lib.hid ((hb.block _ (row_lt HX2.out)).trans HX2.out)
        clear hb c0 c1 c2 c3 c4 c5 c6 c7 c8 c9 c10 c11
        obtain ⟨c0, c1, c2, c3, c4, c5, c6, c7, c8, c9, c10, c11⟩ := twelve HX3.out
        go_wp2_with fail
        refine (within_lit _ _ _ _ _ _ _ _ _ _).mono ?_
        rintro e w4 ⟨rfl, hb⟩
        rw [K02.out]
        have HB4 := Lib.hid (HB3.out.trans (hb.mono HB3.out.size))
        have HX4 := Lib.hid ((hb.block _ (row_lt HX3.out)).trans HX3.out)
        clear hb c0 c1 c2 c3 c4 c5 c6 c7 c8 c9 c10 c11
        obtain ⟨c0, c1, c2, c3, c4, c5, c6, c7, c8, c9, c10, c11⟩ := twelve HX4.out
        go_wp2_with fail
        refine (within_lit _ _ _ _ _ _ _ _ _ _).mono ?_
        rintro e w5 ⟨rfl, hb⟩
        rw [KN.out]
        have HB5 := Lib.hid (HB4.out.trans (hb.mono HB4.out.size))
        have HX5 := Lib.hid ((hb.block _ (row_lt HX4.out)).trans HX4.out)
        clear hb c0 c1 c2 c3 c4 c5 c6 c7 c8 c9 c10 c11
        obtain ⟨c0, c1, c2, c3, c4, c5, c6, c7, c8, c9, c10, c11⟩ := twelve HX5.out
        go_wp2_with fail
        refine (within_lit _ _ _ _ _ _ _ _ _ _).mono ?_
        rintro e w6 ⟨rfl, hb⟩
        rw [K01.out]
        have HB6 := Lib.hid (HB5.out.trans (hb.mono HB5.out.size))
        have HX6 := Lib.hid ((hb.block _ (row_lt HX5.out)).trans HX5.out)
        clear hb c0 c1 c2 c3 c4 c5 c6 c7 c8 c9 c10 c11
        obtain ⟨c0, c1, c2, c3, c4, c5, c6, c7, c8, c9, c10, c11⟩ := twelve HX6.out
        go_wp2_with fail
        refine (within_lit _ _ _ _ _ _ _ _ _ _).mono ?_
        rintro e w7 ⟨rfl, hb⟩
        rw [HS.out]
        have HB7 := Lib.hid (HB6.out.trans (hb.mono HB6.out.size))
        have HX7 := Lib.hid ((hb.block _ (row_lt HX6.out)).trans HX6.out)
        clear hb c0 c1 c2 c3 c4 c5 c6 c7 c8 c9 c10 c11
        obtain ⟨c0, c1, c2, c3, c4, c5, c6, c7, c8, c9, c10, c11⟩ := twelve HX7.out
        go_wp2_with fail
        refine (within_lit _ _ _ _ _ _ _ _ _ _).mono ?_
        rintro e w8 ⟨rfl, hb⟩
        rw [HO.out]
        have HB8 := Lib.hid (HB7.out.trans (hb.mono HB7.out.size))
        have HX8 := Lib.hid ((hb.block _ (row_lt HX7.out)).trans HX7.out)
        clear hb c0 c1 c2 c3 c4 c5 c6 c7 c8 c9 c10 c11
        obtain ⟨c0, c1, c2, c3, c4, c5, c6, c7, c8, c9, c10, c11⟩ := twelve HX8.out
        go_wp2
        go_ret
        exact ⟨rfl, HB8.out⟩
      · have KN : Hid (withinS [x0, x1, x2, x3] [y0, y1, y2, y3] ((k : Int) + (j : Int)) = false) := by
          show _ = _
          simpa using hn
        clear hn
        go_wp2_with fail
        refine (within_lit _ _ _ _ _ _ _ _ _ _).mono ?_
        rintro e w2 ⟨rfl, hb⟩
        rw [K01.out]
        have HB2 := Lib.hid (HB1.out.trans (hb.mono HB1.out.size))
        have HX2 := Lib.hid ((hb.block _ (row_lt HX1.out)).trans HX1.out)
        clear hb c0 c1 c2 c3 c4 c5 c6 c7 c8 c9 c10 c11
        obtain ⟨c0, c1, c2, c3, c4, c5, c6, c7, c8, c9, c10, c11⟩ := twelve HX2.out
        go_wp2_with fail
        refine (within_lit _ _ _ _ _ _ _ _ _ _).mono ?_
        rintro e w3 ⟨rfl, hb⟩
        rw [K12.out]
        have HB3 := Lib.hid (HB2.out.trans (hb.mono HB2.out.size))
        have HX3 := Lib.hid ((hb.block _ (row_lt HX2.out)).trans HX2.out)
        clear hb c0 c1 c2 c3 c4 c5 c6 c7 c8 c9 c10 c11
        obtain ⟨c0, c1, c2, c3, c4, c5, c6, c7, c8, c9, c10, c11⟩ := twelve HX3.out
        go_wp2_with fail
        refine (within_lit _ _ _ _ _ _ _ _ _ _).mono ?_
        rintro e w4 ⟨rfl, hb⟩
        rw [K02.out]
        have HB4 := Lib.hid (HB3.out.trans (hb.mono HB3.out.size))
        have HX4 := Lib.hid ((hb.block _ (row_lt HX3.out)).trans HX3.out)
        clear hb c0 c1 c2 c3 c4 c5 c6 c7 c8 c9 c10 c11
        obtain ⟨c0, c1, c2, c3, c4, c5, c6, c7, c8, c9, c10, c11⟩ := twelve HX4.out
        go_wp2_with fail
        refine (within_lit _ _ _ _ _ _ _ _ _ _).mono ?_
        rintro e w5 ⟨rfl, hb⟩
        rw [KN.out]
        have HB5 := Lib.hid (HB4.out.trans (hb.mono HB4.out.size))
        have HX5 := Lib.hid ((hb.block _ (row_lt HX4.out)).trans HX4.out)
        clear hb c0 c1 c2 c3 c4 c5 c6 c7 c8 c9 c10 c11
        obtain ⟨c0, c1, c2, c3, c4, c5, c6, c7, c8, c9, c10, c11⟩ := twelve HX5.out
        go_wp2_with fail
        refine (within_lit _ _ _ _ _ _ _ _ _ _).mono ?_
        rintro e w6 ⟨rfl, hb⟩
        rw [HS.out]
        have HB6 := Lib.hid (HB5.out.trans (hb.mono HB5.out.size))
        have HX6 := Lib.hid ((hb.block _ (row_lt HX5.out)).trans HX5.out)
        clear hb c0 c1 c2 c3 c4 c5 c6 c7 c8 c9 c10 c11
        obtain ⟨c0, c1, c2, c3, c4, c5, c6, c7, c8, c9, c10, c11⟩ := twelve HX6.out
        go_wp2_with fail
        refine (within_lit _ _ _ _ _ _ _ _ _ _).mono ?_
        rintro e w7 ⟨rfl, hb⟩
        rw [HO.out]
        have HB7 := Lib.hid (HB6.out.trans (hb.mono HB6.out.size))
        have HX7 := Lib.hid ((hb.block _ (row_lt HX6.out)).trans HX6.out)
        clear hb c0 c1 c2 c3 c4 c5 c6 c7 c8 c9 c10 c11
        obtain ⟨c0, c1, c2, c3, c4, c5, c6, c7, c8, c9, c10, c11⟩ := twelve HX7.out
        go_wp2
        go_ret
        exact ⟨rfl, HB7.out⟩
    · have K12 : Hid (withinS [y0, y1, y2, y3] [z0, z1, z2, z3] (k : Int) = false) := by
        show _ = _
        simpa using h12
      clear h12
      by_cases hn : withinS [x0, x1, x2, x3] [y0, y1, y2, y3] ((k : Int) + (j : Int)) = true
      · have KN := Lib.hid hn
        clear hn
        go_wp2_with fail
        refine (within_lit _ _ _ _ _ _ _ _ _ _).mono ?_
        rintro e w2 ⟨rfl, hb⟩
        rw [K01.out]
        have HB2 := Lib.hid (HB1.out.trans (hb.mono HB1.out.size))
        have HX2 := Lib.hid ((hb.block _ (row_lt HX1.out)).trans HX1.out)
        clear hb c0 c1 c2 c3 c4 c5 c6 c7 c8 c9 c10 c11
        obtain ⟨c0, c1, c2, c3, c4, c5, c6, c7, c8, c9, c10, c11⟩ := twelve HX2.out
        go_wp2_with fail
        refine (within_lit _ _ _ _ _ _ _ _ _ _).mono ?_
        rintro e w3 ⟨rfl, hb⟩
        rw [K12.out]
        have HB3 := Lib.hid (HB2.out.trans (hb.mono HB2.out.size))
        have HX3 := Lib.hid ((hb.block _ (row_lt HX2.out)).trans HX2.out)
        clear hb c0 c1 c2 c3 c4 c5 c6 c7 c8 c9 c10 c11
        obtain ⟨c0, c1, c2, c3, c4, c5, c6, c7, c8, c9, c10, c11⟩ := twelve HX3.out
        go_wp2_with fail
        refine (within_lit _ _ _ _ _ _ _ _ _ _).mono ?_
        rintro e w4 ⟨rfl, hb⟩
        rw [KN.out]
        have HB4 := Lib.hid (HB3.out.trans (hb.mono HB3.out.size))
        have HX4 := Lib.hid ((hb.block _ (row_lt HX3.out)).trans HX3.out)
        clear hb c0 c1 c2 c3 c4 c5 c6 c7 c8 c9 c10 c11
        obtain ⟨c0, c1, c2, c3, c4, c5, c6, c7, c8, c9, c10, c11⟩ := twelve HX4.out
        go_wp2_with fail
        refine (within_lit _ _ _ _ _ _ _ _ _ _).mono ?_
        rintro e w5 ⟨rfl, hb⟩
        rw [K01.out]
        have HB5 := Lib.hid (HB4.out.trans (hb.mono HB4.out.size))
        have HX5 := Lib.hid ((hb.block _ (row_lt HX4.out)).trans HX4.out)
        clear hb c0 c1 c2 c3 c4 c5 c6 c7 c8 c9 c10 c11
        obtain ⟨c0, c1, c2, c3, c4, c5, c6, c7, c8, c9, c10, c11⟩ := twelve HX5.out
        go_wp2_with fail
        refine (within_lit _ _ _ _ _ _ _ _ _ _).mono ?_
        rintro e w6 ⟨rfl, hb⟩
        rw [HS.out]
        have HB6 := Lib.hid (HB5.out.trans (hb.mono HB5.out.size))
        have HX6 := Lib.hid ((hb.block _ (row_lt HX5.out)).trans HX5.out)
        clear hb c0 c1 c2 c3 c4 c5 c6 c7 c8 c9 c10 c11
        obtain ⟨c0, c1, c2, c3, c4, c5, c6, c7, c8, c9, c10, c11⟩ := twelve HX6.out
        go_wp2_with fail
        refine (within_lit _ _ _ _ _ _ _ _ _ _).mono ?_
        rintro e w7 ⟨rfl, hb⟩
        rw [HO.out]
        have HB7 := Lib.hid (HB6.out.trans (hb.mono HB6.out.size))
        have HX7 := Lib.hid ((hb.block _ (row_lt HX6.out)).trans HX6.out)
        clear hb c0 c1 c2 c3 c4 c5 c6 c7 c8 c9 c10 c11
        obtain ⟨c0, c1, c2, c3, c4, c5, c6, c7, c8, c9, c10, c11⟩ := twelve HX7.out
        go_wp2
        go_ret
        exact ⟨rfl, HB7.out⟩
      · have KN : Hid (withinS [x0, x1, x2, x3] [y0, y1, y2, y3] ((k : Int) + (j : Int)) = false) := by
          show _ = _
          simpa using hn
        clear hn
        go_wp2_with fail
        refine (within_lit _ _ _ _ _ _ _ _ _ _).mono ?_
        rintro e w2 ⟨rfl, hb⟩
        rw [K01.out]
        have HB2 := Lib.hid (HB1.out.trans (hb.mono HB1.out.size))
        have HX2 := Lib.hid ((hb.block _ (row_lt HX1.out)).trans HX1.out)
        clear hb c0 c1 c2 c3 c4 c5 c6 c7 c8 c9 c10 c11
        obtain ⟨c0, c1, c2, c3, c4, c5, c6, c7, c8, c9, c10, c11⟩ := twelve HX2.out
        go_wp2_with fail
        refine (within_lit _ _ _ _ _ _ _ _ _ _).mono ?_
        rintro e w3 ⟨rfl, hb⟩
        rw [K12.out]
        have HB3 := Lib.hid (HB2.out.trans (hb.mono HB2.out.size))
        have HX3 := Lib.hid ((hb.block _ (row_lt HX2.out)).trans HX2.out)
        clear hb c0 c1 c2 c3 c4 c5 c6 c7 c8 c9 c10 c11
        obtain ⟨c0, c1, c2, c3, c4, c5, c6, c7, c8, c9, c10, c11⟩ := twelve HX3.out
        go_wp2_with fail
        refine (within_lit _ _ _ _ _ _ _ _ _ _).mono ?_
        rintro e w4 ⟨rfl, hb⟩
        rw [KN.out]
        have HB4 := Lib.hid (HB3.out.trans (hb.mono HB3.out.size))
        have HX4 := Lib.hid ((hb.block _ (row_lt HX3.out)).trans HX3.out)
        clear hb c0 c1 c2 c3 c4 c5 c6 c7 c8 c9 c10 c11
        obtain ⟨c0, c1, c2, c3, c4, c5, c6, c7, c8, c9, c10, c11⟩ := twelve HX4.out
        go_wp2_with fail
        refine (within_lit _ _ _ _ _ _ _ _ _ _).mono ?_
        rintro e w5 ⟨rfl, hb⟩
        rw [HS.out]
        have HB5 := Lib.hid (HB4.out.trans (hb.mono HB4.out.size))
        have HX5 := Lib.hid ((hb.block _ (row_lt HX4.out)).trans HX4.out)
        clear hb c0 c1 c2 c3 c4 c5 c6 c7 c8 c9 c10 c11
        obtain ⟨c0, c1, c2, c3, c4, c5, c6, c7, c8, c9, c10, c11⟩ := twelve HX5.out
        go_wp2_with fail
        refine (within_lit _ _ _ _ _ _ _ _ _ _).mono ?_
        rintro e w6 ⟨rfl, hb⟩
        rw [HO.out]
        have HB6 := Lib.hid (HB5.out.trans (hb.mono HB5.out.size))
        have HX6 := Lib.hid ((hb.block _ (row_lt HX5.out)).trans HX5.out)
        clear hb c0 c1 c2 c3 c4 c5 c6 c7 c8 c9 c10 c11
        obtain ⟨c0, c1, c2, c3, c4, c5, c6, c7, c8, c9, c10, c11⟩ := twelve HX6.out
        go_wp2
        go_ret
        exact ⟨rfl, HB6.out⟩
  · have K01 : Hid (withinS [x0, x1, x2, x3] [y0, y1, y2, y3] (k : Int) = false) := by
      show _ = _
      simpa using h01
    have KN := Lib.hid (H01F.out K01.out)
    clear h01
    go_wp2_with fail
    refine (within_lit _ _ _ _ _ _ _ _ _ _).mono ?_
    rintro e w2 ⟨rfl, hb⟩
    rw [K01.out]
    have HB2 := Lib.hid (HB1.out.trans (hb.mono HB1.out.size))
    have HX2 := Lib.hid ((hb.block _ (row_lt HX1.out)).trans HX1.out)
    clear hb c0 c1 c2 c3 c4 c5 c6 c7 c8 c9 c10 c11
    obtain ⟨c0, c1, c2, c3, c4, c5, c6, c7, c8, c9, c10, c11⟩ := twelve HX2.out
    go_wp2_with fail
    refine (within_lit _ _ _ _ _ _ _ _ _ _).mono ?_
    rintro e w3 ⟨rfl, hb⟩
    rw [KN.out]
    have HB3 := Lib.hid (HB2.out.trans (hb.mono HB2.out.size))
    have HX3 := Lib.hid ((hb.block _ (row_lt HX2.out)).trans HX2.out)
    clear hb c0 c1 c2 c3 c4 c5 c6 c7 c8 c9 c10 c11
    obtain ⟨c0, c1, c2, c3, c4, c5, c6, c7, c8, c9, c10, c11⟩ := twelve HX3.out
    go_wp2_with fail
    refine (within_lit _ _ _ _ _ _ _ _ _ _).mono ?_
    rintro e w4 ⟨rfl, hb⟩
    rw [HS.out]
    have HB4 := Lib.hid (HB3.out.trans (hb.mono HB3.out.size))
    have HX4 := Lib.hid ((hb.block _ (row_lt HX3.out)).trans HX3.out)
    clear hb c0 c1 c2 c3 c4 c5 c6 c7 c8 c9 c10 c11
    obtain ⟨c0, c1, c2, c3, c4, c5, c6, c7, c8, c9, c10, c11⟩ := twelve HX4.out
    go_wp2_with fail
    refine (within_lit _ _ _ _ _ _ _ _ _ _).mono ?_
    rintro e w5 ⟨rfl, hb⟩
    rw [HO.out]
    have HB5 := Lib.hid (HB4.out.trans (hb.mono HB4.out.size))
    have HX5 := Lib.hid ((hb.block _ (row_lt HX4.out)).trans HX4.out)
    clear hb c0 c1 c2 c3 c4 c5 c6 c7 c8 c9 c10 c11
    obtain ⟨c0, c1, c2, c3, c4, c5, c6, c7, c8, c9, c10, c11⟩ := twelve HX5.out
    go_wp2
    go_ret
    exact ⟨rfl, HB5.out⟩
end Go.Proofs.YtbahkilfcfbolaaDoor
