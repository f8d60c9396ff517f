/-
  The law DgramTurned: every Datagram, every int, every byte. No condition.
-/
import Derived.Test.YthkpkhhnlenioaaCut
import Derived.Laws.BitsAllLaws
namespace Go.Proofs.Ythkpkhhnlenioaa
open Go.RowKit


theorem xor_ne (x y : UInt8) (h : y ≠ 0) : x ^^^ y ≠ x := by
  intro e
  apply h
  have h1 : x ^^^ (x ^^^ y) = y := by rw [← UInt8.xor_assoc, UInt8.xor_self, UInt8.zero_xor]
  rw [e, UInt8.xor_self] at h1
  exact h1.symm
theorem xor_byte (x y : UInt8) : bits .xor .u8 (x.toNat : Int) (y.toNat : Int) = ((x ^^^ y).toNat : Int) := by
  rw [u8_xor_nat _ _ x.toNat_lt y.toNat_lt, UInt8.toNat_xor]

set_option maxRecDepth 100000 in
set_option maxHeartbeats 4000000 in
theorem turned_any (cs : Array Value) (x : Dg) (a : Int) (y : UInt8) (w : World) (hx : DgC w 0 w.heap.size cs x) :
    Calls Try.prog 6 #[.agg cs, .int .i64 a, .int .u8 (y.toNat : Int)] w fun e w' => e = .returned (.bool true) ∧ Below w.heap.size w w' := by
  have hx2 := hx
  obtain ⟨A, c, rfl, hok, -, hlc, hcm, -⟩ := hx2
  obtain ⟨n, hn⟩ : ∃ n, x.data.length = n := ⟨_, rfl⟩
  rw [hn] at hx hlc ⊢
  have HX := Lib.hid hx
  have HN := Lib.hid hn
  have HB1 := Lib.hid ((Below.refl w.heap.size w).alloc (Nat.le_refl _) (.cells #[.int .u16 (x.src : Int), .int .u16 (x.dst : Int), .slice A n c] 43))
  have HX1 := Lib.hid (heap_alloc_new w (.cells #[.int .u16 (x.src : Int), .int .u16 (x.dst : Int), .slice A n c] 43))
  unfold maxLen at hcm
  clear hx hn hok
  go_enter Try.func6, Try.ntmps6
  go_wp2_with fail
  refine (lives_any _).mono ?_
  rintro e w2 ⟨rfl, hb2⟩
  have HB2 := Lib.hid (HB1.out.trans (hb2.mono HB1.out.size))
  have HX2 : Hid (w2.heap[w.heap.size]? = some (.cells #[.int .u16 (x.src : Int), .int .u16 (x.dst : Int), .slice A n c] 43 (0, 0))) := (hb2.block _ (row_lt HX1.out)).trans HX1.out
  have k2 : w2.cell? ⟨w.heap.size, 2, none⟩ = some (.slice A n c) := cell_of_row _ _ 2 _ _ _ HX2.out
  clear hb2
  by_cases hbig : 900 < n
  · go_wp2_with fail
    refine (lives_any _).mono ?_
    rintro e w3 ⟨rfl, hb3⟩
    have HB3 := Lib.hid (HB2.out.trans (hb3.mono HB2.out.size))
    clear hb3
    go_wp2
    go_ret
    exact ⟨rfl, HB3.out⟩
  have hyl := y.toNat_lt
  by_cases hy : y = 0
  · have qy := beqT (show (y.toNat : Int) = 0 by rw [hy]; rfl)
    go_wp2_with fail
    refine (lives_any _).mono ?_
    rintro e w3 ⟨rfl, hb3⟩
    have HB3 := Lib.hid (HB2.out.trans (hb3.mono HB2.out.size))
    clear hb3
    go_wp2
    go_ret
    exact ⟨rfl, HB3.out⟩
  have qy := beqF (show ¬ (y.toNat : Int) = 0 from fun e => hy (UInt8.toNat_inj.1 (Int.ofNat.inj e)))
  have HY := Lib.hid hy
  clear hy
  go_wp2_with (refine wpList_load_row rfl 43 _ rfl w.heap.size rfl 43 #[.int .u16 (x.src : Int), .int .u16 (x.dst : Int), .slice A n c] (0, 0) _ (old_alloc (old_alloc HX2.out _) _) Try.underlying43 rfl (by kernel_rfl) ?_)
  clear k2
  obtain ⟨w3, hw3⟩ : ∃ w3, (w2.alloc (.cells #[.int .u8 10, .int .u8 0, .int .u8 0, .int .u8 1] 27)).alloc (.cells #[.int .u8 10, .int .u8 0, .int .u8 0, .int .u8 2] 27) = w3 := ⟨_, rfl⟩
  have HB3 : Hid (Below w.heap.size w w3) := by rw [← hw3]; exact (HB2.out.alloc HB2.out.size _).alloc (by have := HB2.out.size; simp; omega) _
  have HS3 : Hid (w3.heap[w2.heap.size]? = some (.cells #[.int .u8 10, .int .u8 0, .int .u8 0, .int .u8 1] 27 (0, 0))) := by rw [← hw3]; exact old_alloc (heap_alloc_new w2 _) _
  have HD3 : Hid (w3.heap[w2.heap.size + 1]? = some (.cells #[.int .u8 10, .int .u8 0, .int .u8 0, .int .u8 2] 27 (0, 0))) := by
    have := heap_alloc_new (w2.alloc (.cells #[.int .u8 10, .int .u8 0, .int .u8 0, .int .u8 1] 27)) (.cells #[.int .u8 10, .int .u8 0, .int .u8 0, .int .u8 2] 27)
    rw [World.size_alloc] at this
    rw [← hw3]
    exact this
  rw [hw3]
  clear hw3
  refine (build_dg _ x 10 0 0 1 10 0 0 2 0 w.heap.size w3 (HX.out.below HB3.out (Nat.le_refl _)) HB3.out.size).mono ?_
  obtain ⟨sl, hsl⟩ : ∃ sl : List UInt8, [10, 0, 0, 1] = sl := ⟨_, rfl⟩
  obtain ⟨dl, hdl⟩ : ∃ dl : List UInt8, [10, 0, 0, 2] = dl := ⟨_, rfl⟩
  rw [hsl, hdl]
  have HSL := Lib.hid hsl
  have HDL := Lib.hid hdl
  have HBP : Hid (dgBuild sl dl x = (x.bytes sl dl, 0)) := by show _ = _; unfold dgBuild; rw [if_neg (by rw [HN.out]; omega)]
  rw [HBP.out]
  have HBL := Lib.hid (dg_length sl dl x)
  have HTU := Lib.hid (fun i z h1 h2 h3 h4 => dg_turned (s := sl) (d := dl) (x := x) (by rw [← hsl]; rfl) (by rw [← hdl]; rfl) (by rw [HN.out]; omega) i z h1 h2 h3 h4)
  have HOT := Lib.hid (fun k z h1 h2 => dg_other (s := sl) (d := dl) (x := x) (by rw [← hsl]; rfl) (by rw [← hdl]; rfl) (by rw [HN.out]; omega) k z h1 h2)
  rintro e w4 ⟨A5, c5, rfl, ho, hb4⟩
  obtain ⟨bs, hbs⟩ : ∃ bs, x.bytes sl dl = bs := ⟨_, rfl⟩
  rw [hbs] at ho HBL HTU HOT ⊢
  obtain ⟨L, hL⟩ : ∃ L, bs.length = L := ⟨_, rfl⟩
  rw [hL] at HBL ⊢
  unfold OwnB at ho
  rw [hL] at ho
  have hLn : L = 8 + n := by have := HBL.out; rw [HN.out] at this; exact this
  have HLN := Lib.hid hLn
  have hLa : 8 ≤ L := by omega
  have hLb : L ≤ 908 := by omega
  have HLL := Lib.hid hL
  have hcap := own_cap ho
  obtain ⟨hcap1, hcap2⟩ := hcap
  unfold maxLen at hcap2
  have hro : Rd w4 w3.heap.size w4.heap.size A5 (cells bs) := Rd.own ho
  have H23 : Hid (w2.heap.size + 1 < w3.heap.size) := row_lt HD3.out
  obtain ⟨ad, rfl⟩ : ∃ ad, A5 = some ad := by
    obtain ⟨ad, e, _⟩ := hro.byte (k := 0) (by rw [hL]; omega)
    exact ⟨ad, e⟩
  have HRO := Lib.hid hro
  have HB4 := Lib.hid (HB3.out.trans (hb4.mono HB3.out.size))
  have HS4 : Hid (w4.heap[w2.heap.size]? = some (.cells #[.int .u8 10, .int .u8 0, .int .u8 0, .int .u8 1] 27 (0, 0))) := (hb4.block _ (row_lt HS3.out)).trans HS3.out
  have HD4 : Hid (w4.heap[w2.heap.size + 1]? = some (.cells #[.int .u8 10, .int .u8 0, .int .u8 0, .int .u8 2] 27 (0, 0))) := (hb4.block _ (row_lt HD3.out)).trans HD3.out
  obtain ⟨i0, hi0, hz0, hz1, hz2⟩ := info_parts info_u8
  have HCB : Hid ((cells bs).length = L) := by show _ = _; rw [cells_length, hL]
  have H1C := Lib.hid (cells_one bs)
  clear ho hb4 hL hro hbs hsl hdl hLn
  go_wp2_with (at_builtin; refine wpList_append_rd rfl _ _ 23 rfl w4.heap.size 5 i0 (.int .u8 0) 1 Try.underlying23 hi0 hz0 hz1 hz2 rfl _ _ _ rfl (own_lit _ [] _ _ w4.heap.size 0 (by simp) (by simp) (by unfold maxLen; omega) rfl) (some ad) L c5 (cells bs) rfl (fun h => by cases h) HCB.out (HRO.out.alloc (Nat.le_refl _) _) H1C.out (by unfold maxLen; omega) (by omega) (by simp) ?_)
  intro v5 w5 hown5 hgrow5
  obtain ⟨A6, c6, rfl⟩ := own_form hown5
  replace hown5 : w5.ownsRow w4.heap.size 5 1 (.slice A6 L c6) L (cells bs) := by first | exact hown5 | simpa using hown5
  have HB5 : Hid (Below w.heap.size w w5) := HB4.out.trans ((((Below.refl w4.heap.size w4).alloc (Nat.le_refl _) _).grown hgrow5 (by simp) fun g hg => by simp [Value.ownBlock] at hg; omega).mono HB4.out.size)
  have hb45 : Below w4.heap.size w4 w5 := ((Below.refl w4.heap.size w4).alloc (Nat.le_refl _) _).grown hgrow5 (by simp) fun g hg => by simp [Value.ownBlock] at hg; omega
  have HS5 : Hid (w5.heap[w2.heap.size]? = some (.cells #[.int .u8 10, .int .u8 0, .int .u8 0, .int .u8 1] 27 (0, 0))) := (hb45.block _ (row_lt HS4.out)).trans HS4.out
  have HD5 : Hid (w5.heap[w2.heap.size + 1]? = some (.cells #[.int .u8 10, .int .u8 0, .int .u8 0, .int .u8 2] 27 (0, 0))) := (hb45.block _ (row_lt HD4.out)).trans HD4.out
  have HRO5 := Lib.hid ((HRO.out.below hb45 (Nat.le_refl _)).wide (Nat.le_refl _) hb45.size)
  have HB45 := Lib.hid hb45
  have H24 : Hid (w2.heap.size + 1 < w4.heap.size) := row_lt HD4.out
  obtain ⟨hu1, hu2⟩ := u64_range a
  obtain ⟨k, hk1, hk2⟩ := rem_small (IntKind.u64.wrap a) L (by omega)
  have hkL : k < L := by omega
  have hkb : k < bs.length := by rw [HLL.out]; exact hkL
  obtain ⟨b, hb⟩ : ∃ b, bs[k] = b := ⟨_, rfl⟩
  have HXK : Hid (bs.getD k 0 = b) := by show _ = _; rw [List.getD_eq_getElem?_getD, List.getElem?_eq_getElem hkb, hb]; rfl
  have hcg := cells_get bs k hkb
  rw [hb] at hcg
  obtain ⟨g, rfl, hg1, hg2, hcell⟩ := own_at hown5 hcg
  have hfree : w5.frozen? ⟨g, k, none⟩ = false := hown5.frozenAt k
  have hst := hown5.stored k (.int .u8 ((b.toNat ^^^ y.toNat : Nat) : Int))
  have ecs : (cells bs).set k (.int .u8 ((b.toNat ^^^ y.toNat : Nat) : Int)) = cells (bs.set k (b ^^^ y)) := by
    unfold cells
    rw [List.map_set, UInt8.toNat_xor]
  rw [ecs] at hst
  have HST := Lib.hid hst
  have HCP := Lib.hid (own_cap hown5)
  have hxor := xor_byte b y
  rw [UInt8.toNat_xor] at hxor
  have hkL2 : (k : Int) < (L : Int) := by omega
  have t0 : IntKind.u64.wrap (L : Int) = (L : Int) := IntWalk.u64_in _ ⟨by omega, by omega⟩
  have t1 : (IntKind.u64.wrap a).tmod (L : Int) = (k : Int) := by rw [Int.tmod_eq_emod_of_nonneg hu1]; exact hk1
  have t2 : (IntKind.u64.wrap a) % (L : Int) = (k : Int) := hk1
  have t3 : IntKind.u64.wrap (k : Int) = (k : Int) := IntWalk.u64_in _ ⟨by omega, by omega⟩
  have t4 : IntKind.i64.wrap (k : Int) = (k : Int) := IntWalk.i64_in _ ⟨by omega, by omega⟩
  have hL0 : ¬ L = 0 := by omega
  have HG1 := Lib.hid hg1
  have HU1 := Lib.hid hu1
  have HKB := Lib.hid hkb
  clear hk1 hk2 hb hcg hown5 hgrow5 hb45 hst ecs hg1 hi0 hz0 hz1 hz2 hkb
  by_cases p4 : k = 4
  · have r4 := beqT (show (k : Int) = 4 by omega)
    go_wp2
    go_ret
    exact ⟨rfl, HB5.out⟩
  have r4 := beqF (show ¬ (k : Int) = 4 by omega)
  by_cases p5 : k = 5
  · have r5 := beqT (show (k : Int) = 5 by omega)
    go_wp2
    go_ret
    exact ⟨rfl, HB5.out⟩
  have r5 := beqF (show ¬ (k : Int) = 5 by omega)
  have HP := Lib.hid (And.intro p4 p5)
  obtain ⟨w6, hw6⟩ : ∃ w6, w5.setCell ⟨g, k, none⟩ (.int .u8 ((b.toNat ^^^ y.toNat : Nat) : Int)) = w6 := ⟨_, rfl⟩
  have HST6 : Hid (w6.ownsRow w4.heap.size 5 1 (.slice (some ⟨g, 0, none⟩) L c6) L (cells (bs.set k (b ^^^ y))) ∧ w5.grownBy w6 (some g)) := by rw [← hw6]; exact HST.out
  have hgne : ∀ q, q < w4.heap.size → ∀ o : Obj, w5.heap[q]? = some o → w6.heap[q]? = some o := fun q hq o h => (HST6.out.2.block q (row_lt h) (fun e => by injection e with e; have := HG1.out; omega)).trans h
  have HS6 : Hid (w6.heap[w2.heap.size]? = some (.cells #[.int .u8 10, .int .u8 0, .int .u8 0, .int .u8 1] 27 (0, 0))) := hgne _ (by have := H24.out; omega) _ HS5.out
  have HD6 : Hid (w6.heap[w2.heap.size + 1]? = some (.cells #[.int .u8 10, .int .u8 0, .int .u8 0, .int .u8 2] 27 (0, 0))) := hgne _ (by have := H24.out; omega) _ HD5.out
  have HB6 : Hid (Below w.heap.size w w6) := HB5.out.grown HST6.out.2 HB5.out.size (fun g' e => by injection e with e; have := HG1.out; have := HB4.out.size; omega)
  have HB46 : Hid (Below w4.heap.size w4 w6) := HB45.out.grown HST6.out.2 HB45.out.size (fun g' e => by injection e with e; have := HG1.out; omega)
  have HRO6 : Hid (Rd w6 w3.heap.size w4.heap.size (some ad) (cells bs)) := HRO.out.below HB46.out (Nat.le_refl _)
  have HZ6 : Hid (w4.heap.size ≤ w6.heap.size) := HB46.out.size
  clear p4 p5 hgne
  go_wp2_with (first | refine wpList_load_row rfl 27 _ rfl w2.heap.size rfl 27 #[.int .u8 10, .int .u8 0, .int .u8 0, .int .u8 1] (0, 0) _ HS6.out Try.underlying27 rfl (by kernel_rfl) ?_ | refine wpList_load_row rfl 27 _ rfl (w2.heap.size + 1) rfl 27 #[.int .u8 10, .int .u8 0, .int .u8 0, .int .u8 2] (0, 0) _ HD6.out Try.underlying27 rfl (by kernel_rfl) ?_)
  have hbl : (bs.set k (b ^^^ y)).length = L := by rw [List.length_set]; exact HLL.out
  obtain ⟨bz, hbz⟩ : ∃ bz, bs.set k (b ^^^ y) = bz := ⟨_, rfl⟩
  have HBZ := Lib.hid hbz
  have hst1 := HST6.out.1
  rw [hbz] at hbl hst1
  have hop := open_dg (some ⟨g, 0, none⟩) bz L c6 0 w6.heap.size 10 0 0 1 10 0 0 2 w6 ((Rd.own hst1).wide (Nat.zero_le _) (Nat.le_refl _)) hbl HCP.out.1 HCP.out.2 (Nat.le_refl _) (by omega)
  rw [HSL.out, HDL.out] at hop
  obtain ⟨q, er, hqe⟩ : ∃ q er, dgOpen sl dl bz = (q, er) := ⟨_, _, rfl⟩
  rw [hqe] at hop
  have HN6 : Hid (er = 0 → numAt bz 6 = 0) := fun h0 => by
    have h1 := HTU.out k (b ^^^ y) (by rw [HN.out]; have := HLN.out; omega) HP.out.1 HP.out.2 (by rw [HXK.out]; exact xor_ne b y HY.out)
    rw [hbz, hqe] at h1
    exact h1 h0
  have HST1 := Lib.hid hst1
  have HBZL := Lib.hid hbl
  clear hbz hst1 hqe hbl t0 t1 t2 t3 t4 hL0 hkL2 hxor hfree hcell r4 r5 hw6
  refine hop.mono ?_
  rintro e w7 ⟨m7, rfl, hb7, -, -⟩
  simp only
  have hown7 := own_below HST1.out hb7 (Nat.le_refl _)
  have HB7 : Hid (Below w.heap.size w w7) := HB6.out.trans (hb7.mono HB6.out.size)
  have hs7 := (hb7.block _ (row_lt HS6.out)).trans HS6.out
  have HD7 : Hid (w7.heap[w2.heap.size + 1]? = some (.cells #[.int .u8 10, .int .u8 0, .int .u8 0, .int .u8 2] 27 (0, 0))) := (hb7.block _ (row_lt HD6.out)).trans HD6.out
  have HRO7 := Lib.hid (HRO6.out.below hb7 HZ6.out)
  obtain ⟨j, hj1, hj2⟩ := rem_small (IntKind.u64.wrap a) 4 (by omega)
  have hj4 : j < 4 := by omega
  have hsll : sl.length = 4 := by rw [← HSL.out]; rfl
  obtain ⟨sj, hsj⟩ : ∃ sj, sl[j]'(by omega) = sj := ⟨_, rfl⟩
  have hSC : (#[.int .u8 10, .int .u8 0, .int .u8 0, .int .u8 1] : Array Value) = (cells sl).toArray := by rw [← HSL.out]; rfl
  rw [hSC] at hs7
  have HS7 := Lib.hid hs7
  have hjc : w7.cell? ⟨w2.heap.size, j, none⟩ = some (.int .u8 (sj.toNat : Int)) := by
    rw [cell_of_row _ _ _ _ _ _ hs7]
    have := cells_get sl j (by omega)
    rw [hsj] at this
    simpa using this
  have hjf : w7.frozen? ⟨w2.heap.size, j, none⟩ = false := frozen_of_row _ _ _ _ _ hs7
  have hxor := xor_byte sj y
  rw [UInt8.toNat_xor] at hxor
  have t1 : (IntKind.u64.wrap a).tmod 4 = (j : Int) := by rw [Int.tmod_eq_emod_of_nonneg HU1.out]; exact hj1
  have t2 : (IntKind.u64.wrap a) % 4 = (j : Int) := hj1
  have t3 : IntKind.u64.wrap (j : Int) = (j : Int) := IntWalk.u64_in _ ⟨by omega, by omega⟩
  have t4 : IntKind.i64.wrap (j : Int) = (j : Int) := IntWalk.i64_in _ ⟨by omega, by omega⟩
  have hj43 : (j : Int) ≤ 3 := by omega
  obtain ⟨w8, hw8⟩ : ∃ w8, w7.setCell ⟨w2.heap.size, j, none⟩ (.int .u8 ((sj.toNat ^^^ y.toNat : Nat) : Int)) = w8 := ⟨_, rfl⟩
  have hset : (cells sl).toArray.setIfInBounds j (.int .u8 ((sj.toNat ^^^ y.toNat : Nat) : Int)) = (cells (sl.set j (sj ^^^ y))).toArray := by
    rw [List.setIfInBounds_toArray]
    unfold cells
    rw [List.map_set, UInt8.toNat_xor]
  have hrw : w7.setCell ⟨w2.heap.size, j, none⟩ (.int .u8 ((sj.toNat ^^^ y.toNat : Nat) : Int)) = w7.setRow w2.heap.size (cells (sl.set j (sj ^^^ y))).toArray := by rw [setCell_eq_setRow w7 w2.heap.size j _ _ (0, 0) _ hs7, hset]
  obtain ⟨a0, a1, a2, a3, hfour⟩ := four_of (sl.set j (sj ^^^ y)) (by rw [List.length_set]; exact hsll)
  rw [hfour] at hrw
  have HB8 : Hid (Below w.heap.size w w8) := by rw [← hw8, hrw]; exact below_setRow HB7.out HB2.out.size _
  have HS8 : Hid (w8.heap[w2.heap.size]? = some (.cells #[.int .u8 (a0.toNat : Int), .int .u8 (a1.toNat : Int), .int .u8 (a2.toNat : Int), .int .u8 (a3.toNat : Int)] 27 (0, 0))) := by rw [← hw8, hrw]; exact setRow_heap w7 _ _ _ _ _ hs7
  have hoth : ∀ q, q ≠ w2.heap.size → w8.heap[q]? = w7.heap[q]? := fun q hq => by rw [← hw8, hrw]; exact setRow_other w7 _ q _ hq
  have HD8 : Hid (w8.heap[w2.heap.size + 1]? = some (.cells #[.int .u8 10, .int .u8 0, .int .u8 0, .int .u8 2] 27 (0, 0))) := (hoth _ (by omega)).trans HD7.out
  have HRO8 : Hid (Rd w8 0 w8.heap.size (some ad) (cells bs)) := by
    intro q u hu
    obtain ⟨ad', e, h1, h2, h3⟩ := HRO7.out q u hu
    refine ⟨ad', e, Nat.zero_le _, by have := HZ6.out; have := hb7.size; have : w8.heap.size = w7.heap.size := by {rw [← hw8, hrw]; simp [World.setRow]}; omega, ?_⟩
    rw [← h3]
    unfold World.cell?
    have hbk : (ad'.add q).block = ad'.block := by unfold Addr.add; split <;> rfl
    rw [hoth _ (by rw [hbk]; have := H23.out; omega)]
  rcases hown7.2 with ⟨he, _⟩ | ⟨g', cap, cur, he, _, hgr, _, _, hcs, htk⟩
  · cases he
  simp only [Value.slice.injEq, Option.some.injEq, Addr.mk.injEq, and_true] at he
  obtain ⟨rfl, -, rfl⟩ := he
  have HGR8 : Hid (w8.heap[g]? = some (.cells cur 5 (0, 0))) := (hoth g (by have := HG1.out; have := H24.out; omega)).trans hgr
  have HTK : Hid (∀ i z, i < L → (cells bz)[i]? = some z → cur[i]? = some z) := fun i z hi hz => by
    rw [← htk, List.getElem?_take] at hz
    rw [if_pos (by omega), Array.getElem?_toList] at hz
    exact hz
  have HOT2 : Hid (dgOpen [a0, a1, a2, a3] dl bs = (Dg.zero, 8)) := by
    rw [← hfour]
    exact HOT.out j (sj ^^^ y) hj4 (by rw [List.getD_eq_getElem?_getD, List.getElem?_eq_getElem (by omega), hsj]; exact xor_ne sj y HY.out)
  clear hop hb7 hj1 hj2 hsll hsj hSC hs7 hset hrw hfour hoth hown7 hgr hcs htk
  go_wp2_with (first | refine wpList_load_row rfl 27 _ rfl w2.heap.size rfl 27 #[.int .u8 (a0.toNat : Int), .int .u8 (a1.toNat : Int), .int .u8 (a2.toNat : Int), .int .u8 (a3.toNat : Int)] (0, 0) _ HS8.out Try.underlying27 rfl (by kernel_rfl) ?_ | refine wpList_load_row rfl 27 _ rfl (w2.heap.size + 1) rfl 27 #[.int .u8 10, .int .u8 0, .int .u8 0, .int .u8 2] (0, 0) _ HD8.out Try.underlying27 rfl (by kernel_rfl) ?_)
  have hop := open_dg (some ad) bs L c5 0 w8.heap.size a0 a1 a2 a3 10 0 0 2 w8 HRO8.out HLL.out (by omega) (by unfold maxLen; omega) (Nat.le_refl _) (by omega)
  rw [HDL.out, HOT2.out] at hop
  refine hop.mono ?_
  rintro e w9 ⟨m9, rfl, hb9, -, -⟩
  simp only
  have HB9 : Hid (Below w.heap.size w w9) := HB8.out.trans (hb9.mono HB8.out.size)
  have hg9 := (hb9.block _ (row_lt HGR8.out)).trans HGR8.out
  clear hop hb9 t1 t2 t3 t4 hxor hjc hjf hw8
  by_cases he0 : er = 0
  · have hn6 := HN6.out he0
    have h67 : ∀ i, i < L → bz.getD i 0 = 0 → w9.cell? ⟨g, i, none⟩ = some (.int .u8 0) := fun i hi hz => by
      rw [cell_of_row _ _ _ _ _ _ hg9]
      refine HTK.out i _ hi ?_
      rw [cells_get bz i (by rw [HBZL.out]; exact hi)]
      rw [List.getD_eq_getElem?_getD, List.getElem?_eq_getElem (by rw [HBZL.out]; exact hi)] at hz
      simp only [Option.getD_some] at hz
      rw [hz]
      rfl
    have hn7 : 256 * (bz.getD 6 0).toNat + (bz.getD 7 0).toNat = 0 := hn6
    have z6 := h67 6 (by omega) (UInt8.toNat_inj.1 (by show _ = 0; omega))
    have z7 := h67 7 (by omega) (UInt8.toNat_inj.1 (by show _ = 0; omega))
    subst he0
    clear h67 hn6 hn7 hg9
    go_wp2
    go_ret
    exact ⟨rfl, HB9.out⟩
  · have qe := bneT he0
    clear hg9
    go_wp2
    go_ret
    exact ⟨rfl, HB9.out⟩
end Go.Proofs.Ythkpkhhnlenioaa
