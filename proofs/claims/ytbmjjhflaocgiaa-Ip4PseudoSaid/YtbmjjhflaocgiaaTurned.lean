/-
  Ip4Turned returns true for every packet, every int and every byte, and turns nothing that was there.
-/
import Derived.Test.YtbmjjhflaocgiaaBuilds
import Derived.Laws.BitsAllLaws
namespace Go.Proofs.Ytbmjjhflaocgiaa
open Go.RowKit

theorem xor_ne (x y : UInt8) (h : y ≠ 0) : x ^^^ y ≠ x := by
  intro e
  apply h
  have h1 : x ^^^ (x ^^^ y) = y := by rw [← UInt8.xor_assoc, UInt8.xor_self, UInt8.zero_xor]
  rw [e, UInt8.xor_self] at h1
  exact h1.symm
theorem xor_byte (x y : UInt8) : bits .xor .u8 (x.toNat : Int) (y.toNat : Int) = ((x ^^^ y).toNat : Int) := by
  rw [u8_xor_nat _ _ x.toNat_lt y.toNat_lt, UInt8.toNat_xor]
theorem u64_range (z : Int) : 0 ≤ IntKind.u64.wrap z ∧ IntKind.u64.wrap z ≤ 18446744073709551615 := by
  rw [IntKind.wrap_u64]
  omega
theorem rem_small (z : Int) (n : Nat) (h : 0 < n) : ∃ k : Nat, z % (n : Int) = (k : Int) ∧ k ≤ n - 1 := by
  have h1 := Int.emod_nonneg z (show (n : Int) ≠ 0 by omega)
  have h2 := Int.emod_lt_of_pos z (show (0 : Int) < n by omega)
  exact ⟨(z % n).toNat, by omega, by omega⟩

set_option maxRecDepth 100000 in
set_option maxHeartbeats 1000000 in
theorem turned_big (cs : Array Value) (p : Pk) (a1 : Int) (y : UInt8) (w : World) (h : PkV w 0 w.heap.size cs p) (hn : 180 < p.data.length ∨ y = 0) :
    Calls Try.prog 5 #[.agg cs, .int .i64 a1, .int .u8 (y.toNat : Int)] w fun e w' => e = .returned (.bool true) ∧ Below w.heap.size w w' := by
  obtain ⟨A, c, _, _, h13, _, hlc, hm, _⟩ := h.parts
  obtain ⟨n, hbn⟩ : ∃ n, p.data.length = n := ⟨_, rfl⟩
  rw [hbn] at h13 hn hlc
  have hn2 : n ≤ 9223372036854775807 := by unfold maxLen at hm; omega
  have HB0 := Lib.hid ((Below.refl w.heap.size w).alloc (Nat.le_refl _) (.cells cs 27))
  have HG0 := Lib.hid (heap_alloc_new w (.cells cs 27))
  have H13 := Lib.hid h13
  clear h hbn hlc hm h13
  have hcs2 : 180 < n ∨ (n ≤ 180 ∧ y = 0) := by
    by_cases h2 : 180 < n
    · exact .inl h2
    · exact .inr ⟨by omega, hn.resolve_left h2⟩
  rcases hcs2 with hi | ⟨hi, rfl⟩
  all_goals
    clear hn
    go_enter Try.func5, Try.ntmps5
    go_wp2_with fail
    refine (lives_any _).mono ?_
    rintro e w1 ⟨rfl, hb1⟩
    have hc13 : w1.cell? ⟨w.heap.size, 13, none⟩ = some (.slice A n c) := by
      rw [cell_of_row _ _ _ _ _ _ ((hb1.block _ (row_lt HG0.out)).trans HG0.out)]
      exact H13.out
    have HB1 := Lib.hid (HB0.out.trans (hb1.mono HB0.out.size))
    clear hb1
    go_wp2_with fail
    refine (lives_any _).mono ?_
    rintro e w2 ⟨rfl, hb2⟩
    have HB := Lib.hid (HB1.out.trans (hb2.mono HB1.out.size))
    clear hb2
    go_wp2
    go_ret
    exact ⟨rfl, HB.out⟩

set_option maxRecDepth 100000 in
set_option maxHeartbeats 4000000 in
theorem turned_walk (cs : Array Value) (p : Pk) (a1 : Int) (y : UInt8) (w : World) (h : PkV w 0 w.heap.size cs p) (hn : p.data.length ≤ 180) (hy : y ≠ 0) :
    Calls Try.prog 5 #[.agg cs, .int .i64 a1, .int .u8 (y.toNat : Int)] w fun e w' => e = .returned (.bool true) ∧ Below w.heap.size w w' := by
  obtain ⟨A, c, _, _, h13, _, hlc, hm, _⟩ := h.parts
  obtain ⟨n, hbn⟩ : ∃ n, p.data.length = n := ⟨_, rfl⟩
  rw [hbn] at h13 hn hlc
  have HF := Lib.hid h
  have HBN := Lib.hid hbn
  have HS := Lib.hid h.size
  have HB0 := Lib.hid ((Below.refl w.heap.size w).alloc (Nat.le_refl _) (.cells cs 27))
  have HG0 := Lib.hid (heap_alloc_new w (.cells cs 27))
  have H13 := Lib.hid h13
  have HY := Lib.hid hy
  have hyb : ((y.toNat : Int) == 0) = false := beqF fun e => hy (UInt8.toNat_inj.1 (Int.ofNat.inj e))
  have hyl := y.toNat_lt
  clear h hbn hlc hm h13 hy
  go_enter Try.func5, Try.ntmps5
  go_wp2_with fail
  refine (lives_any _).mono ?_
  rintro e w2 ⟨rfl, hb1⟩
  have HX1 := Lib.hid ((hb1.block _ (row_lt HG0.out)).trans HG0.out)
  have HB1 := Lib.hid (HB0.out.trans (hb1.mono HB0.out.size))
  have hc13 : w2.cell? ⟨w.heap.size, 13, none⟩ = some (.slice A n c) := by
    rw [cell_of_row _ _ _ _ _ _ HX1.out]
    exact H13.out
  clear hb1
  go_wp2_with (refine wpList_load_row rfl 27 _ rfl w.heap.size rfl _ cs _ _ HX1.out Try.underlying27 rfl (size_pk HS.out) ?_)
  clear hc13 hyb
  refine (build_any cs p w2 0 w.heap.size (HF.out.below HB1.out (Nat.le_refl _)) HB1.out.size).mono ?_
  rintro e w5 ⟨A5, c5, rfl, ho5, hb5⟩
  have HB5 := Lib.hid (HB1.out.trans (hb5.mono HB1.out.size))
  have HX5 := Lib.hid ((hb5.block _ (row_lt HX1.out)).trans HX1.out)
  have HZ5 : Hid (w.heap.size < w2.heap.size) := row_lt HX1.out
  have hcase : (buildP p = (p.bytes, 0) ∧ placedB p = true) ∨ (∃ z, z ≠ 0 ∧ buildP p = ([], z)) := by
    unfold buildP
    by_cases q1 : placedB p = true
    · rw [if_pos q1, if_neg (by rw [HBN.out]; omega)]
      exact .inl ⟨rfl, q1⟩
    · rw [if_neg q1]; exact .inr ⟨1, by simp, rfl⟩
  clear hb5 HB1 HX1 HG0 HB0
  rcases hcase with ⟨hbe, hpl⟩ | ⟨z, hz, hbe⟩
  · rw [hbe] at ho5 ⊢
    unfold OwnB at ho5
    have hbl := bytes_length HF.out.ok
    rw [HBN.out] at hbl
    obtain ⟨bs, hbs⟩ : ∃ bs, p.bytes = bs := ⟨_, rfl⟩
    rw [hbs] at ho5 hbl
    simp only at ho5 ⊢
    rw [hbs]
    obtain ⟨L, hL⟩ : ∃ L, bs.length = L := ⟨_, rfl⟩
    rw [hL] at ho5 hbl ⊢
    have HLL := Lib.hid hL
    have HPB := Lib.hid hbs
    have HPL := Lib.hid hpl
    obtain ⟨hu1, hu2⟩ := u64_range a1
    obtain ⟨k, hk1, hk2⟩ := rem_small (IntKind.u64.wrap a1) 20 (by omega)
    have hkl : k < L := by omega
    have hkb : k < bs.length := by omega
    obtain ⟨x, hx⟩ : ∃ x, bs[k] = x := ⟨_, rfl⟩
    have HXK : Hid (bs.getD k 0 = x) := by show _ = _; rw [List.getD_eq_getElem?_getD, List.getElem?_eq_getElem hkb, hx]; rfl
    have hcg := cells_get bs k hkb
    rw [hx] at hcg
    obtain ⟨g, rfl, hg1, hg2, hcell⟩ := own_at ho5 hcg
    have hfree : w5.frozen? ⟨g, k, none⟩ = false := ho5.frozenAt k
    have hst := ho5.stored k (.int .u8 ((x.toNat ^^^ y.toNat : Nat) : Int))
    have ecs : (cells bs).set k (.int .u8 ((x.toNat ^^^ y.toNat : Nat) : Int)) = cells (bs.set k (x ^^^ y)) := by
      unfold cells
      rw [List.map_set, UInt8.toNat_xor]
    rw [ecs] at hst
    have HST := Lib.hid hst
    have HCP := Lib.hid (own_cap ho5)
    have hxor := xor_byte x y
    rw [UInt8.toNat_xor] at hxor
    have hk20 : (k : Int) ≤ 19 := by omega
    have hkL : (k : Int) < (L : Int) := by omega
    have t1 : (IntKind.u64.wrap a1).tmod 20 = (k : Int) := by rw [Int.tmod_eq_emod_of_nonneg hu1]; exact hk1
    have t2 : (IntKind.u64.wrap a1) % 20 = (k : Int) := hk1
    have t3 : IntKind.u64.wrap (k : Int) = (k : Int) := IntWalk.u64_in _ ⟨by omega, by omega⟩
    have t4 : IntKind.i64.wrap (k : Int) = (k : Int) := IntWalk.i64_in _ ⟨by omega, by omega⟩
    have HL200 : Hid (L ≤ 200) := by show _ ≤ _; omega
    have HG1 := Lib.hid hg1
    have HK := Lib.hid (And.intro hkb hk2)
    clear hbe hbs hL hpl hk1 hx hcg ho5 hg1 hbl hkb hst ecs
    go_wp2_with fail
    have HB6 := Lib.hid (HB5.out.grown HST.out.2 HB5.out.size (fun g' e => by injection e with e; have := HG1.out; have := HZ5.out; omega))
    have HX6 := Lib.hid ((HST.out.2.block w.heap.size (row_lt HX5.out) (fun e => by injection e with e; have := HG1.out; have := HZ5.out; omega)).trans HX5.out)
    generalize w5.setCell ⟨g, k, none⟩ (.int .u8 ((x.toNat ^^^ y.toNat : Nat) : Int)) = w6 at HST HB6 HX6 ⊢
    have hp := parse_len (some ⟨g, 0, none⟩) (bs.set k (x ^^^ y)) L c5 w6.heap.size w6 (by rw [List.length_set]; exact HLL.out) ((Rd.own HST.out.1).wide (Nat.zero_le _) (Nat.le_refl _)) (Nat.le_refl _) HCP.out.1 (by have := HL200.out; omega) HCP.out.2
    have htn := parse_turned HF.out.ok HPL.out (by rw [HBN.out]; omega) k (by have := HK.out.2; omega) (x ^^^ y) (by rw [HPB.out, HXK.out]; exact xor_ne x y HY.out)
    rw [HPB.out] at htn
    have hzz := parse_zero (bs.set k (x ^^^ y))
    obtain ⟨q, hq⟩ : ∃ q, (parseP (bs.set k (x ^^^ y))).1 = q := ⟨_, rfl⟩
    obtain ⟨er, her⟩ : ∃ er, (parseP (bs.set k (x ^^^ y))).2 = er := ⟨_, rfl⟩
    have hpr : parseP (bs.set k (x ^^^ y)) = (q, er) := by rw [← hq, ← her]
    rw [hq, her] at htn hzz
    rw [hpr] at hp
    have HTN := Lib.hid htn
    have HZZ := Lib.hid hzz
    clear hxor hfree hcell t1 t2 t3 t4 hk20 hkL htn hzz hq her hpr hu1 hu2 HB5 HX5
    refine hp.mono ?_
    rintro e w7 ⟨ds, rfl, hv7, hb7⟩
    have hB7 := HB6.out.trans (hb7.mono HB6.out.size)
    have HB7 := Lib.hid (hB7.alloc hB7.size (.cells ds 27))
    have HX7 := Lib.hid (old_alloc ((hb7.block _ (row_lt HX6.out)).trans HX6.out) (.cells ds 27))
    have HY7 := Lib.hid (heap_alloc_new w7 (.cells ds 27))
    have HS7 := Lib.hid hv7.size
    have HO7 := Lib.hid hv7.one
    have HG7 := Lib.hid (hv7.alloc (Nat.le_refl _) (.cells ds 27))
    have HZ7 : Hid (w7.heap.size ≤ (w7.alloc (.cells ds 27)).heap.size ∧ w.heap.size ≤ (w7.alloc (.cells ds 27)).heap.size) := by
      have := hB7.size
      refine ⟨?_, ?_⟩ <;> simp <;> omega
    clear hp hv7 hb7 hB7 HB6 HX6
    by_cases he : er = 0
    · have HNE : Hid (pkEq q p = false) := by
        show _ = _
        cases hpe : pkEq q p
        · rfl
        · exact absurd ((pkEq_iff q p).1 hpe) (HTN.out he)
      subst he
      go_wp2_with (first | refine wpList_store_new rfl 27 _ _ rfl w7 #[.int .u16 0, .bool false, .int .i64 0, .int .u8 0, .int .u8 0, .int .u8 0, .int .u8 0, .int .u8 0, .int .u8 0, .int .u8 0, .int .u8 0, .int .u8 0, .int .u8 0, .slice none 0 0] ds rfl rfl (size_pk HS7.out) HS7.out.symm HO7.out ?_ | refine wpList_load_row rfl 27 _ rfl w7.heap.size rfl _ ds _ _ HY7.out Try.underlying27 rfl (size_pk HS7.out) ?_ | refine wpList_load_row rfl 27 _ rfl w.heap.size rfl _ cs _ _ HX7.out Try.underlying27 rfl (size_pk HS.out) ?_)
      refine (same_any ds cs q p _ _ _ _ _ HG7.out (HF.out.below HB7.out (Nat.le_refl _)) HZ7.out.1 HZ7.out.2).mono ?_
      rintro e wa ⟨rfl, hba⟩
      rw [HNE.out]
      have HBa := Lib.hid (HB7.out.trans (hba.mono HB7.out.size))
      clear hba
      go_wp2
      go_ret
      exact ⟨rfl, HBa.out⟩
    · have hne : (er != 0) = true := bneT he
      have hqz : q = Pk.zero := HZZ.out he
      subst hqz
      clear he
      go_wp2_with (first | refine wpList_store_new rfl 27 _ _ rfl w7 #[.int .u16 0, .bool false, .int .i64 0, .int .u8 0, .int .u8 0, .int .u8 0, .int .u8 0, .int .u8 0, .int .u8 0, .int .u8 0, .int .u8 0, .int .u8 0, .int .u8 0, .slice none 0 0] ds rfl rfl (size_pk HS7.out) HS7.out.symm HO7.out ?_ | refine wpList_load_row rfl 27 _ rfl w7.heap.size rfl _ ds _ _ HY7.out Try.underlying27 rfl (size_pk HS7.out) ?_)
      refine (same_any ds _ Pk.zero Pk.zero _ _ 0 0 _ HG7.out (zero_pkV _ _ _) HZ7.out.1 (Nat.zero_le _)).mono ?_
      rintro e wa ⟨rfl, hba⟩
      rw [pkEq_self]
      have HBa := Lib.hid (HB7.out.trans (hba.mono HB7.out.size))
      clear hba
      go_wp2
      go_ret
      exact ⟨rfl, HBa.out⟩
  · have hne : (z != 0) = true := bneT hz
    rw [hbe]
    clear hbe hz
    simp only [List.length_nil]
    go_wp2
    go_ret
    exact ⟨rfl, HB5.out⟩

theorem turned_any (cs : List Value) (p : Pk) (a1 a2 : Int) (w : World) (h : PkV w 0 w.heap.size cs.toArray p) (w2 : (Lit.int .u8 a2).wf = true) :
    Calls Try.prog 5 #[.agg cs.toArray, .int .i64 a1, .int .u8 a2] w fun e w' => e = .returned (.bool true) ∧ Below w.heap.size w w' := by
  have hb : 0 ≤ a2 ∧ a2 ≤ 255 := by
    simp [Lit.wf, IntKind.min, IntKind.max, IntKind.signed, IntKind.bits] at w2
    omega
  obtain ⟨y, rfl⟩ : ∃ y : UInt8, a2 = (y.toNat : Int) := ⟨UInt8.ofNat a2.toNat, by rw [u8_of]; omega⟩
  by_cases hc : 180 < p.data.length ∨ y = 0
  · exact turned_big cs.toArray p a1 y w h hc
  · exact turned_walk cs.toArray p a1 y w h (by omega) (fun e => hc (.inr e))
end Go.Proofs.Ytbmjjhflaocgiaa
