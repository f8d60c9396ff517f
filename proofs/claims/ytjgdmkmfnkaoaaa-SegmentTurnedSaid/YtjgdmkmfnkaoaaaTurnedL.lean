/-
  The law SegmentTurned: every segment, every int, every byte. No condition.
-/
import Derived.Test.YtjgdmkmfnkaoaaaShapesS
import Derived.Laws.BitsAllLaws
namespace Go.Proofs.Ytjgdmkmfnkaoaaa
open Go.RowKit


theorem u64_range (z : Int) : 0 ≤ IntKind.u64.wrap z ∧ IntKind.u64.wrap z ≤ 18446744073709551615 := by
  rw [IntKind.wrap_u64]
  omega
theorem rem_small (z : Int) (n : Nat) (h : 0 < n) : ∃ k : Nat, z % (n : Int) = (k : Int) ∧ k ≤ n - 1 := by
  have h1 := Int.emod_nonneg z (show (n : Int) ≠ 0 by omega)
  have h2 := Int.emod_lt_of_pos z (show (0 : Int) < n by omega)
  exact ⟨(z % n).toNat, by omega, by omega⟩


theorem xor_ne (x y : UInt8) (h : y ≠ 0) : x ^^^ y ≠ x := by
  intro e
  apply h
  have h1 : x ^^^ (x ^^^ y) = y := by rw [← UInt8.xor_assoc, UInt8.xor_self, UInt8.zero_xor]
  rw [e, UInt8.xor_self] at h1
  exact h1.symm
theorem xor_byte (x y : UInt8) : bits .xor .u8 (x.toNat : Int) (y.toNat : Int) = ((x ^^^ y).toNat : Int) := by
  rw [u8_xor_nat _ _ x.toNat_lt y.toNat_lt, UInt8.toNat_xor]
set_option maxRecDepth 100000 in
set_option maxHeartbeats 4000000 in
theorem turned_any (cs : Array Value) (x : Sg) (a : Int) (y : UInt8) (w : World) (hx : SgC w 0 w.heap.size cs x) :
    Calls Try.prog 5 #[.agg cs, .int .i64 a, .int .u8 (y.toNat : Int)] w fun e w' => e = .returned (.bool true) ∧ Below w.heap.size w w' := by
  have hx2 := hx
  obtain ⟨A, c, rfl, hok, -, hlc, hcm, -⟩ := hx2
  obtain ⟨n, hn⟩ : ∃ n, x.data.length = n := ⟨_, rfl⟩
  rw [hn] at hx hlc ⊢
  have HX := Lib.hid hx
  have HN := Lib.hid hn
  have HOKX := Lib.hid hok
  have HB1 := Lib.hid ((Below.refl w.heap.size w).alloc (Nat.le_refl _) (.cells #[.int .u16 (x.src : Int), .int .u16 (x.dst : Int), .int .u32 (x.seq : Int), .int .u32 (x.ack : Int), .int .u8 (x.flags.toNat : Int), .int .u16 (x.wnd : Int), .int .u16 (x.mss : Int), .slice A n c] 26))
  have HX1 := Lib.hid (heap_alloc_new w (.cells #[.int .u16 (x.src : Int), .int .u16 (x.dst : Int), .int .u32 (x.seq : Int), .int .u32 (x.ack : Int), .int .u8 (x.flags.toNat : Int), .int .u16 (x.wnd : Int), .int .u16 (x.mss : Int), .slice A n c] 26))
  unfold maxLen at hcm
  clear hx hn hok
  go_enter Try.func5, Try.ntmps5
  go_wp2_with fail
  refine (lives_any _).mono ?_
  rintro e w2 ⟨rfl, hb2⟩
  have HB2 := Lib.hid (HB1.out.trans (hb2.mono HB1.out.size))
  have HX2 := Lib.hid ((hb2.block _ (row_lt HX1.out)).trans HX1.out)
  have k7 : w2.cell? ⟨w.heap.size, 7, none⟩ = some (.slice A n c) := cell_of_row _ _ 7 _ _ _ HX2.out
  clear hb2
  by_cases hbig : 156 < n
  · go_wp2_with fail
    refine (lives_any _).mono ?_
    rintro e w3 ⟨rfl, hb3⟩
    have HB3 := Lib.hid (HB2.out.trans (hb3.mono HB2.out.size))
    clear hb3
    go_wp2
    go_ret
    exact ⟨rfl, HB3.out⟩
  have hyl := y.toNat_lt
  by_cases hy : y = 0
  · have qy := beqT (show (y.toNat : Int) = 0 by rw [hy]; rfl)
    go_wp2_with fail
    refine (lives_any _).mono ?_
    rintro e w3 ⟨rfl, hb3⟩
    have HB3 := Lib.hid (HB2.out.trans (hb3.mono HB2.out.size))
    clear hb3
    go_wp2
    go_ret
    exact ⟨rfl, HB3.out⟩
  have qy := beqF (show ¬ (y.toNat : Int) = 0 from fun e => hy (UInt8.toNat_inj.1 (Int.ofNat.inj e)))
  have HY := Lib.hid hy
  clear hy
  go_wp2_with (refine wpList_load_row rfl 26 _ rfl w.heap.size rfl 26 #[.int .u16 (x.src : Int), .int .u16 (x.dst : Int), .int .u32 (x.seq : Int), .int .u32 (x.ack : Int), .int .u8 (x.flags.toNat : Int), .int .u16 (x.wnd : Int), .int .u16 (x.mss : Int), .slice A n c] (0, 0) _ (old_alloc (old_alloc HX2.out _) _) Try.underlying26 rfl (by kernel_rfl) ?_)
  clear k7
  obtain ⟨w3, hw3⟩ : ∃ w3, (w2.alloc (.cells #[.int .u8 10, .int .u8 0, .int .u8 0, .int .u8 1] 28)).alloc (.cells #[.int .u8 10, .int .u8 0, .int .u8 0, .int .u8 2] 28) = w3 := ⟨_, rfl⟩
  have HB3 : Hid (Below w.heap.size w w3) := by rw [← hw3]; exact (HB2.out.alloc HB2.out.size _).alloc (by have := HB2.out.size; simp; omega) _
  have HS3 : Hid (w3.heap[w2.heap.size]? = some (.cells #[.int .u8 10, .int .u8 0, .int .u8 0, .int .u8 1] 28 (0, 0))) := by rw [← hw3]; exact old_alloc (heap_alloc_new w2 _) _
  have HD3 : Hid (w3.heap[w2.heap.size + 1]? = some (.cells #[.int .u8 10, .int .u8 0, .int .u8 0, .int .u8 2] 28 (0, 0))) := by
    have := heap_alloc_new (w2.alloc (.cells #[.int .u8 10, .int .u8 0, .int .u8 0, .int .u8 1] 28)) (.cells #[.int .u8 10, .int .u8 0, .int .u8 0, .int .u8 2] 28)
    rw [World.size_alloc] at this
    rw [← hw3]
    exact this
  rw [hw3]
  clear hw3
  refine (sbuild_any _ x 10 0 0 1 10 0 0 2 0 w.heap.size w3 (HX.out.below HB3.out (Nat.le_refl _)) HB3.out.size).mono ?_
  obtain ⟨sl, hsl⟩ : ∃ sl : List UInt8, [10, 0, 0, 1] = sl := ⟨_, rfl⟩
  obtain ⟨dl, hdl⟩ : ∃ dl : List UInt8, [10, 0, 0, 2] = dl := ⟨_, rfl⟩
  rw [hsl, hdl]
  have HSL := Lib.hid hsl
  have HDL := Lib.hid hdl
  by_cases hm : x.may
  rotate_left
  · have hbz : sgBuild sl dl x = ([], 1) := by unfold sgBuild; rw [if_neg (by rw [HN.out]; exact hbig), if_neg hm]
    rw [hbz]
    rintro e w4 ⟨A5, c5, rfl, ho, hb4⟩
    have HB4 := Lib.hid (HB3.out.trans (hb4.mono HB3.out.size))
    clear hb4 ho hbz hm hsl hdl
    simp only
    go_wp2
    go_ret
    exact ⟨rfl, HB4.out⟩
  have HMAY := Lib.hid hm
  have HBP : Hid (sgBuild sl dl x = (x.bytes sl dl, 0)) := by show _ = _; unfold sgBuild; rw [if_neg (by rw [HN.out]; exact hbig), if_pos hm]
  rw [HBP.out]
  have hz1000 : x.size ≤ 1000 := by have := (size_le x).2; have := HN.out; omega
  have HBL := Lib.hid (sg_length sl dl x)
  have HTU := Lib.hid (fun i z h1 h2 => sg_turned (s := sl) (d := dl) (x := x) (by rw [← hsl]; rfl) (by rw [← hdl]; rfl) i z h1 h2)
  have HOT := Lib.hid (fun k z h1 h2 => sg_other (s := sl) (d := dl) (x := x) (by rw [← hsl]; rfl) (by rw [← hdl]; rfl) hz1000 k z h1 h2)
  have hzb := size_le x
  rw [HN.out] at hzb
  rintro e w4 ⟨A5, c5, rfl, ho, hb4⟩
  obtain ⟨bs, hbs⟩ : ∃ bs, x.bytes sl dl = bs := ⟨_, rfl⟩
  rw [hbs] at ho HBL HTU HOT ⊢
  obtain ⟨L, hL⟩ : ∃ L, bs.length = L := ⟨_, rfl⟩
  rw [hL] at HBL ⊢
  unfold OwnB at ho
  rw [hL] at ho
  have hLn : L = x.size := HBL.out
  have HLN := Lib.hid hLn
  have hLa : 20 ≤ L := by omega
  have hLb : L ≤ 180 := by omega
  have HLL := Lib.hid hL
  have hcap := own_cap ho
  obtain ⟨hcap1, hcap2⟩ := hcap
  unfold maxLen at hcap2
  have hro : Rd w4 w3.heap.size w4.heap.size A5 (cells bs) := Rd.own ho
  have H23 : Hid (w2.heap.size + 1 < w3.heap.size) := row_lt HD3.out
  obtain ⟨ad, rfl⟩ : ∃ ad, A5 = some ad := by
    obtain ⟨ad, e, _⟩ := hro.byte (k := 0) (by rw [hL]; omega)
    exact ⟨ad, e⟩
  have HRO := Lib.hid hro
  have HB4 := Lib.hid (HB3.out.trans (hb4.mono HB3.out.size))
  have HS4 : Hid (w4.heap[w2.heap.size]? = some (.cells #[.int .u8 10, .int .u8 0, .int .u8 0, .int .u8 1] 28 (0, 0))) := (hb4.block _ (row_lt HS3.out)).trans HS3.out
  have HD4 : Hid (w4.heap[w2.heap.size + 1]? = some (.cells #[.int .u8 10, .int .u8 0, .int .u8 0, .int .u8 2] 28 (0, 0))) := (hb4.block _ (row_lt HD3.out)).trans HD3.out
  obtain ⟨i0, hi0, hz0, hz1, hz2⟩ := info_parts info_u8
  have HCB : Hid ((cells bs).length = L) := by show _ = _; rw [cells_length, hL]
  have H1C := Lib.hid (cells_one bs)
  clear ho hb4 hL hro hbs hsl hdl hLn hzb hz1000 hm
  simp only
  go_wp2_with (at_builtin; refine wpList_append_rd rfl _ _ 24 rfl w4.heap.size 5 i0 (.int .u8 0) 1 Try.underlying24 hi0 hz0 hz1 hz2 rfl _ _ _ rfl (own_lit _ [] _ _ w4.heap.size 0 (by simp) (by simp) (by unfold maxLen; omega) rfl) (some ad) L c5 (cells bs) rfl (fun h => by cases h) HCB.out (HRO.out.alloc (Nat.le_refl _) _) H1C.out (by unfold maxLen; omega) (by omega) (by simp) ?_)
  intro v5 w5 hown5 hgrow5
  obtain ⟨A6, c6, rfl⟩ := own_form hown5
  replace hown5 : w5.ownsRow w4.heap.size 5 1 (.slice A6 L c6) L (cells bs) := by first | exact hown5 | simpa using hown5
  have hb45 : Below w4.heap.size w4 w5 := ((Below.refl w4.heap.size w4).alloc (Nat.le_refl _) _).grown hgrow5 (by simp) fun g hg => by simp [Value.ownBlock] at hg; omega
  have HB5 : Hid (Below w.heap.size w w5) := HB4.out.trans (hb45.mono HB4.out.size)
  have HS5 : Hid (w5.heap[w2.heap.size]? = some (.cells #[.int .u8 10, .int .u8 0, .int .u8 0, .int .u8 1] 28 (0, 0))) := (hb45.block _ (row_lt HS4.out)).trans HS4.out
  have HD5 : Hid (w5.heap[w2.heap.size + 1]? = some (.cells #[.int .u8 10, .int .u8 0, .int .u8 0, .int .u8 2] 28 (0, 0))) := (hb45.block _ (row_lt HD4.out)).trans HD4.out
  have HB45 := Lib.hid hb45
  have H24 : Hid (w2.heap.size + 1 < w4.heap.size) := row_lt HD4.out
  obtain ⟨hu1, hu2⟩ := u64_range a
  obtain ⟨k, hk1, hk2⟩ := rem_small (IntKind.u64.wrap a) L (by omega)
  have hkL : k < L := by omega
  have hkb : k < bs.length := by rw [HLL.out]; exact hkL
  obtain ⟨b, hb⟩ : ∃ b, bs[k] = b := ⟨_, rfl⟩
  have HXK : Hid (bs.getD k 0 = b) := by show _ = _; rw [List.getD_eq_getElem?_getD, List.getElem?_eq_getElem hkb, hb]; rfl
  have hcg := cells_get bs k hkb
  rw [hb] at hcg
  obtain ⟨g, rfl, hg1, hg2, hcell⟩ := own_at hown5 hcg
  have hfree : w5.frozen? ⟨g, k, none⟩ = false := hown5.frozenAt k
  have hst := hown5.stored k (.int .u8 ((b.toNat ^^^ y.toNat : Nat) : Int))
  have ecs : (cells bs).set k (.int .u8 ((b.toNat ^^^ y.toNat : Nat) : Int)) = cells (bs.set k (b ^^^ y)) := by
    unfold cells
    rw [List.map_set, UInt8.toNat_xor]
  rw [ecs] at hst
  have HST := Lib.hid hst
  have HCP := Lib.hid (own_cap hown5)
  have hxor := xor_byte b y
  rw [UInt8.toNat_xor] at hxor
  have hkL2 : (k : Int) < (L : Int) := by omega
  have t0 : IntKind.u64.wrap (L : Int) = (L : Int) := IntWalk.u64_in _ ⟨by omega, by omega⟩
  have t1 : (IntKind.u64.wrap a).tmod (L : Int) = (k : Int) := by rw [Int.tmod_eq_emod_of_nonneg hu1]; exact hk1
  have t2 : (IntKind.u64.wrap a) % (L : Int) = (k : Int) := hk1
  have t3 : IntKind.u64.wrap (k : Int) = (k : Int) := IntWalk.u64_in _ ⟨by omega, by omega⟩
  have t4 : IntKind.i64.wrap (k : Int) = (k : Int) := IntWalk.i64_in _ ⟨by omega, by omega⟩
  have hL0 : ¬ L = 0 := by omega
  have HG1 := Lib.hid hg1
  have HU1 := Lib.hid hu1
  obtain ⟨w6, hw6⟩ : ∃ w6, w5.setCell ⟨g, k, none⟩ (.int .u8 ((b.toNat ^^^ y.toNat : Nat) : Int)) = w6 := ⟨_, rfl⟩
  have HST6 : Hid (w6.ownsRow w4.heap.size 5 1 (.slice (some ⟨g, 0, none⟩) L c6) L (cells (bs.set k (b ^^^ y))) ∧ w5.grownBy w6 (some g)) := by rw [← hw6]; exact HST.out
  have hgne : ∀ q, q < w4.heap.size → ∀ o : Obj, w5.heap[q]? = some o → w6.heap[q]? = some o := fun q hq o h => (HST6.out.2.block q (row_lt h) (fun e => by injection e with e; have := HG1.out; omega)).trans h
  have HS6 : Hid (w6.heap[w2.heap.size]? = some (.cells #[.int .u8 10, .int .u8 0, .int .u8 0, .int .u8 1] 28 (0, 0))) := hgne _ (by have := H24.out; omega) _ HS5.out
  have HD6 : Hid (w6.heap[w2.heap.size + 1]? = some (.cells #[.int .u8 10, .int .u8 0, .int .u8 0, .int .u8 2] 28 (0, 0))) := hgne _ (by have := H24.out; omega) _ HD5.out
  have HB6 : Hid (Below w.heap.size w w6) := HB5.out.grown HST6.out.2 HB5.out.size (fun g' e => by injection e with e; have := HG1.out; have := HB4.out.size; omega)
  have HB46 : Hid (Below w4.heap.size w4 w6) := HB45.out.grown HST6.out.2 HB45.out.size (fun g' e => by injection e with e; have := HG1.out; omega)
  have HRO6 : Hid (Rd w6 w3.heap.size w4.heap.size (some ad) (cells bs)) := HRO.out.below HB46.out (Nat.le_refl _)
  have HZ6 : Hid (w4.heap.size ≤ w6.heap.size) := HB46.out.size
  clear hk1 hk2 hb hcg hown5 hgrow5 hb45 hst ecs hg1 hi0 hz0 hz1 hz2 hkb hgne
  go_wp2_with (first | refine wpList_load_row rfl 28 _ rfl w2.heap.size rfl 28 #[.int .u8 10, .int .u8 0, .int .u8 0, .int .u8 1] (0, 0) _ HS6.out Try.underlying28 rfl (by kernel_rfl) ?_ | refine wpList_load_row rfl 28 _ rfl (w2.heap.size + 1) rfl 28 #[.int .u8 10, .int .u8 0, .int .u8 0, .int .u8 2] (0, 0) _ HD6.out Try.underlying28 rfl (by kernel_rfl) ?_)
  have hbl : (bs.set k (b ^^^ y)).length = L := by rw [List.length_set]; exact HLL.out
  obtain ⟨bz, hbz⟩ : ∃ bz, bs.set k (b ^^^ y) = bz := ⟨_, rfl⟩
  have hst1 := HST6.out.1
  rw [hbz] at hbl hst1
  have hop := sopen_any (some ⟨g, 0, none⟩) bz c6 0 w6.heap.size 10 0 0 1 10 0 0 2 w6 ((Rd.own hst1).wide (Nat.zero_le _) (Nat.le_refl _)) (Nat.le_refl _) (by rw [hbl]; exact HCP.out.1) HCP.out.2
  rw [HSL.out, HDL.out, hbl] at hop
  have hne := HTU.out k (b ^^^ y) (by have := HLN.out; omega) (by rw [HXK.out]; exact xor_ne b y HY.out)
  rw [hbz] at hne
  have hze := sg_open_none hne
  obtain ⟨q, er, hqe⟩ : ∃ q er, sgOpen sl dl bz = (q, er) := ⟨_, _, rfl⟩
  rw [hqe] at hop hne hze
  have hze2 : q = Sg.zero := hze
  subst hze2
  have HER : Hid (er ≠ 0) := hne
  clear hbz hst1 hqe hbl t0 t1 t2 t3 t4 hL0 hkL2 hxor hfree hcell hw6 hne hze
  refine hop.mono ?_
  clear hop
  rintro e w7 ⟨cs7, rfl, hcs7, hb7⟩
  simp only at hcs7 ⊢
  have HB7 : Hid (Below w.heap.size w w7) := HB6.out.trans (hb7.mono HB6.out.size)
  have HS7 : Hid (w7.heap[w2.heap.size]? = some (.cells #[.int .u8 10, .int .u8 0, .int .u8 0, .int .u8 1] 28 (0, 0))) := (hb7.block _ (row_lt HS6.out)).trans HS6.out
  have HD7 : Hid (w7.heap[w2.heap.size + 1]? = some (.cells #[.int .u8 10, .int .u8 0, .int .u8 0, .int .u8 2] 28 (0, 0))) := (hb7.block _ (row_lt HD6.out)).trans HD6.out
  have HRO7 := Lib.hid (HRO6.out.below hb7 HZ6.out)
  have HZ7 : Hid (w4.heap.size ≤ w7.heap.size) := Nat.le_trans HZ6.out hb7.size
  have HC7 := Lib.hid hcs7
  have HAL7 := Lib.hid hcs7.one.2
  have HIN7 : Hid ((Try.prog.info? 26).map (·.size) = some cs7.size) := by show _ = _; rw [hcs7.one.1]; kernel_rfl
  have HZD7 : Hid ((#[.int .u16 0, .int .u16 0, .int .u32 0, .int .u32 0, .int .u8 0, .int .u16 0, .int .u16 0, .slice none 0 0] : Array Value).size = cs7.size) := by show _ = _; rw [hcs7.one.1]; rfl
  have HB7a := Lib.hid (HB7.out.alloc HB7.out.size (.cells cs7 26))
  have HS7a := Lib.hid (old_alloc HS7.out (.cells cs7 26))
  have HD7a := Lib.hid (old_alloc HD7.out (.cells cs7 26))
  have HX7a := Lib.hid (heap_alloc_new w7 (.cells cs7 26))
  have HRO7a := Lib.hid (HRO7.out.alloc HZ7.out (.cells cs7 26))
  have HC7a := Lib.hid (HC7.out.below ((Below.refl w7.heap.size w7).alloc (Nat.le_refl _) (.cells cs7 26)) (Nat.le_refl _))
  have HZ7a : Hid (w7.heap.size < (w7.alloc (.cells cs7 26)).heap.size) := by show _ < _; simp
  have HW67 : Hid (w6.heap.size ≤ w7.heap.size) := hb7.size
  clear hb7 hcs7
  go_upto_region 10 with (refine wpList_store_newS rfl 26 _ _ rfl w7 #[.int .u16 0, .int .u16 0, .int .u32 0, .int .u32 0, .int .u8 0, .int .u16 0, .int .u16 0, .slice none 0 0] cs7 rfl rfl HIN7.out HZD7.out HAL7.out ?_)
  generalize w7.alloc (.cells cs7 26) = w7a at HB7a HS7a HD7a HX7a HRO7a HC7a HZ7a ⊢
  try simp only [Act.put]
  have hs7 := HS7a.out
  obtain ⟨j, hj1, hj2⟩ := rem_small (IntKind.u64.wrap a) 4 (by omega)
  have hj4 : j < 4 := by omega
  have hsll : sl.length = 4 := by rw [← HSL.out]; rfl
  obtain ⟨sj, hsj⟩ : ∃ sj, sl[j]'(by omega) = sj := ⟨_, rfl⟩
  have hSC : (#[.int .u8 10, .int .u8 0, .int .u8 0, .int .u8 1] : Array Value) = (cells sl).toArray := by rw [← HSL.out]; rfl
  rw [hSC] at hs7
  have hjc : w7a.cell? ⟨w2.heap.size, j, none⟩ = some (.int .u8 (sj.toNat : Int)) := by
    rw [cell_of_row _ _ _ _ _ _ hs7]
    have := cells_get sl j (by omega)
    rw [hsj] at this
    simpa using this
  have hjf : w7a.frozen? ⟨w2.heap.size, j, none⟩ = false := frozen_of_row _ _ _ _ _ hs7
  have hxor := xor_byte sj y
  rw [UInt8.toNat_xor] at hxor
  have t1 : (IntKind.u64.wrap a).tmod 4 = (j : Int) := by rw [Int.tmod_eq_emod_of_nonneg HU1.out]; exact hj1
  have t2 : (IntKind.u64.wrap a) % 4 = (j : Int) := hj1
  have t3 : IntKind.u64.wrap (j : Int) = (j : Int) := IntWalk.u64_in _ ⟨by omega, by omega⟩
  have t4 : IntKind.i64.wrap (j : Int) = (j : Int) := IntWalk.i64_in _ ⟨by omega, by omega⟩
  have hj43 : (j : Int) ≤ 3 := by omega
  obtain ⟨w8, hw8⟩ : ∃ w8, w7a.setCell ⟨w2.heap.size, j, none⟩ (.int .u8 ((sj.toNat ^^^ y.toNat : Nat) : Int)) = w8 := ⟨_, rfl⟩
  have hset : (cells sl).toArray.setIfInBounds j (.int .u8 ((sj.toNat ^^^ y.toNat : Nat) : Int)) = (cells (sl.set j (sj ^^^ y))).toArray := by
    rw [List.setIfInBounds_toArray]
    unfold cells
    rw [List.map_set, UInt8.toNat_xor]
  have hrw : w7a.setCell ⟨w2.heap.size, j, none⟩ (.int .u8 ((sj.toNat ^^^ y.toNat : Nat) : Int)) = w7a.setRow w2.heap.size (cells (sl.set j (sj ^^^ y))).toArray := by rw [setCell_eq_setRow w7a w2.heap.size j _ _ (0, 0) _ hs7, hset]
  obtain ⟨a0, a1, a2, a3, hfour⟩ := four_of (sl.set j (sj ^^^ y)) (by rw [List.length_set]; exact hsll)
  rw [hfour] at hrw
  have HB8 : Hid (Below w.heap.size w w8) := by rw [← hw8, hrw]; exact below_setRowO HB7a.out HB2.out.size _
  have HS8 : Hid (w8.heap[w2.heap.size]? = some (.cells #[.int .u8 (a0.toNat : Int), .int .u8 (a1.toNat : Int), .int .u8 (a2.toNat : Int), .int .u8 (a3.toNat : Int)] 28 (0, 0))) := by rw [← hw8, hrw]; exact setRow_heap w7a _ _ _ _ _ hs7
  have hoth : ∀ q, q ≠ w2.heap.size → w8.heap[q]? = w7a.heap[q]? := fun q hq => by rw [← hw8, hrw]; exact setRow_other w7a _ q _ hq
  have hsz8 : w8.heap.size = w7a.heap.size := by rw [← hw8, hrw]; simp [World.setRow]
  have HD8 : Hid (w8.heap[w2.heap.size + 1]? = some (.cells #[.int .u8 10, .int .u8 0, .int .u8 0, .int .u8 2] 28 (0, 0))) := (hoth _ (by omega)).trans HD7a.out
  have HX8 : Hid (w8.heap[w7.heap.size]? = some (.cells cs7 26 (0, 0))) := (hoth _ (by have h1 := H24.out; have h2 := HZ7.out; omega)).trans HX7a.out
  have HRO8 : Hid (Rd w8 0 w8.heap.size (some ad) (cells bs)) := (HRO7a.out.keep fun p hp hq => World.cell?_of_block (hoth _ (by have := H23.out; omega))).wide (Nat.zero_le _) (by have := HZ7.out; have := HZ7a.out; omega)
  have HC8 : Hid (SgC w8 w6.heap.size w7.heap.size cs7 Sg.zero) := by
    obtain ⟨A', c', h1, h2, h3, h4⟩ := HC7a.out
    exact ⟨A', c', h1, h2, h3.keep fun p hp hq => World.cell?_of_block (hoth _ (by have h1 := H24.out; have h2 := HZ6.out; omega)), h4⟩
  have HZ8 : Hid (w7.heap.size < w8.heap.size) := by show _ < _; rw [hsz8]; exact HZ7a.out
  have HOT2 : Hid (sgOpen [a0, a1, a2, a3] dl bs = (Sg.zero, 8)) := by
    rw [← hfour]
    exact HOT.out j (sj ^^^ y) hj4 (by rw [List.getD_eq_getElem?_getD, List.getElem?_eq_getElem (by omega), hsj]; exact xor_ne sj y HY.out)
  clear hj1 hj2 hsll hsj hSC hs7 hset hrw hfour hoth hsz8
  go_wp2_with (first | refine wpList_load_row rfl 28 _ rfl w2.heap.size rfl 28 #[.int .u8 (a0.toNat : Int), .int .u8 (a1.toNat : Int), .int .u8 (a2.toNat : Int), .int .u8 (a3.toNat : Int)] (0, 0) _ HS8.out Try.underlying28 rfl (by kernel_rfl) ?_ | refine wpList_load_row rfl 28 _ rfl (w2.heap.size + 1) rfl 28 #[.int .u8 10, .int .u8 0, .int .u8 0, .int .u8 2] (0, 0) _ HD8.out Try.underlying28 rfl (by kernel_rfl) ?_)
  have hop := sopen_any (some ad) bs c5 0 w8.heap.size a0 a1 a2 a3 10 0 0 2 w8 HRO8.out (Nat.le_refl _) (by rw [HLL.out]; omega) (by unfold maxLen; omega)
  rw [HDL.out, HOT2.out, HLL.out] at hop
  refine hop.mono ?_
  clear hop
  rintro e w9 ⟨cs9, rfl, hcs9, hb9⟩
  simp only at hcs9 ⊢
  have HB9 : Hid (Below w.heap.size w w9) := HB8.out.trans (hb9.mono HB8.out.size)
  have HX9 := Lib.hid ((hb9.block _ (row_lt HX8.out)).trans HX8.out)
  have HC79 := Lib.hid (HC8.out.below hb9 (Nat.le_of_lt HZ8.out))
  have HC9 := Lib.hid hcs9
  have HAL9 := Lib.hid hcs9.one.2
  have HIN9 : Hid ((Try.prog.info? 26).map (·.size) = some cs9.size) := by show _ = _; rw [hcs9.one.1]; kernel_rfl
  have HZD9 : Hid ((#[.int .u16 0, .int .u16 0, .int .u32 0, .int .u32 0, .int .u8 0, .int .u16 0, .int .u16 0, .slice none 0 0] : Array Value).size = cs9.size) := by show _ = _; rw [hcs9.one.1]; rfl
  have HZ9 : Hid (w7.heap.size < w9.heap.size) := row_lt HX9.out
  have HB9a := Lib.hid (HB9.out.alloc HB9.out.size (.cells cs9 26))
  have HX9a := Lib.hid (old_alloc HX9.out (.cells cs9 26))
  have HY9a := Lib.hid (heap_alloc_new w9 (.cells cs9 26))
  have HC79a := Lib.hid (HC79.out.below ((Below.refl w9.heap.size w9).alloc (Nat.le_refl _) (.cells cs9 26)) (Nat.le_of_lt HZ9.out))
  have HC9a := Lib.hid (HC9.out.below ((Below.refl w9.heap.size w9).alloc (Nat.le_refl _) (.cells cs9 26)) (Nat.le_refl _))
  have HZ9a : Hid (w9.heap.size < (w9.alloc (.cells cs9 26)).heap.size) := by show _ < _; simp
  clear hb9 hcs9 t1 t2 t3 t4 hxor hjc hjf hw8
  go_upto_region 12 with (refine wpList_store_newS rfl 26 _ _ rfl w9 #[.int .u16 0, .int .u16 0, .int .u32 0, .int .u32 0, .int .u8 0, .int .u16 0, .int .u16 0, .slice none 0 0] cs9 rfl rfl HIN9.out HZD9.out HAL9.out ?_)
  generalize w9.alloc (.cells cs9 26) = w9a at HB9a HX9a HY9a HC79a HC9a HZ9a ⊢
  try simp only [Act.put]
  have qe := bneT HER.out
  have hsm := samesg_any cs7 #[.int .u16 0, .int .u16 0, .int .u32 0, .int .u32 0, .int .u8 0, .int .u16 0, .int .u16 0, .slice none 0 0] Sg.zero Sg.zero w6.heap.size w7.heap.size 0 0 w9a HC79a.out (zero_sg _ _ _) (Nat.le_of_lt (Nat.lt_trans HZ9.out HZ9a.out)) (Nat.zero_le _)
  rw [sgEq_self] at hsm
  have HSM := Lib.hid hsm
  clear hsm
  go_wp2_with (refine wpList_load_rowS (by kernel_rfl) 26 _ rfl w7.heap.size rfl 26 cs7 (0, 0) _ HX9a.out Try.underlying26 rfl HIN7.out ?_)
  refine HSM.out.mono ?_
  rintro e w10 ⟨rfl, hb10⟩
  have HB10 := Lib.hid (HB9a.out.trans (hb10.mono HB9a.out.size))
  have HY10 := Lib.hid ((hb10.block _ (row_lt HY9a.out)).trans HY9a.out)
  have HC10 := Lib.hid (HC9a.out.below hb10 (Nat.le_of_lt HZ9a.out))
  have HZ10 : Hid (w9.heap.size ≤ w10.heap.size) := Nat.le_trans (Nat.le_of_lt HZ9a.out) hb10.size
  have hsm := samesg_any cs9 #[.int .u16 0, .int .u16 0, .int .u32 0, .int .u32 0, .int .u8 0, .int .u16 0, .int .u16 0, .slice none 0 0] Sg.zero Sg.zero w8.heap.size w9.heap.size 0 0 w10 HC10.out (zero_sg _ _ _) HZ10.out (Nat.zero_le _)
  rw [sgEq_self] at hsm
  have HSM2 := Lib.hid hsm
  clear hsm hb10
  go_wp2_with (refine wpList_load_rowS (by kernel_rfl) 26 _ rfl w9.heap.size rfl 26 cs9 (0, 0) _ HY10.out Try.underlying26 rfl HIN9.out ?_)
  refine HSM2.out.mono ?_
  rintro e w11 ⟨rfl, hb11⟩
  have HB11 := Lib.hid (HB10.out.trans (hb11.mono HB10.out.size))
  clear hb11
  go_wp2
  go_ret
  exact ⟨rfl, HB11.out⟩
end Go.Proofs.Ytjgdmkmfnkaoaaa
