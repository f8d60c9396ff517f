/-
  The law HeapLooks: every slice of ops, every two ints. No condition.
-/
import Derived.Test.YtagajijjcjfopaaVarL
namespace Go.Proofs.Ytagajijjcjfopaa
open Go.RowKit

theorem HpV.formsN {base : Nat} {B : List UInt8} {L : List Bk} {D : List Bool} {w : World} {v1 v2 v3 : Value} {nb nk nd : Nat} (h : HpV base B L D w v1 v2 v3) (h1 : B.length = nb) (h2 : L.length = nk) (h3 : D.length = nd) :
    ∃ A1 c1 A2 c2 A3 c3, v1 = .slice A1 nb c1 ∧ v2 = .slice A2 nk c2 ∧ v3 = .slice A3 nd c3 := by
  subst h1 h2 h3
  exact h.forms
theorem pages_mem {D : List Bool} {n a : Nat} (h : a ∈ pagesTo D n) : a < n := by
  unfold pagesTo at h
  have := (List.mem_filter.1 h).1
  simpa using this
theorem pages_sorted (D : List Bool) (n : Nat) : (pagesTo D n).Pairwise (· < ·) := (List.pairwise_lt_range).filter _
theorem load_small (B : List UInt8) (L : List Bk) (x n : Int) : (loadO B L x n).1.length ≤ B.length := by
  unfold loadO
  split
  · simp
  · split
    · simp only [List.length_take, List.length_drop]; omega
    · simp
theorem load_len {T : Nat} {B : List UInt8} {L : List Bk} {x n : Int} (hT : B.length = T) (hL : Blk T 0 L) (h : (loadO B L x n).2 = 0) : ((loadO B L x n).1.length : Int) = n := by
  unfold loadO at h ⊢
  split at h
  · simp at h
  · rename_i hn
    rw [if_neg hn]
    split at h
    · rename_i hg
      rw [if_pos hg]
      have := given_in (n := n) hL (by omega) hg
      simp only [List.length_take, List.length_drop]
      omega
    · simp at h
theorem store_len (B : List UInt8) (L : List Bk) (D : List Bool) (x : Int) (l : List UInt8) : (storeO B L D x l).2.1.length = D.length := by
  unfold storeO
  split
  · exact markD_length _ _ _
  · rfl
theorem tell_len (B : List UInt8) (D : List Bool) (p : Int) : (tellO B D p).1.length = D.length := by
  unfold tellO
  split
  · simp
  · rfl
set_option maxRecDepth 100000 in
set_option maxHeartbeats 1000000 in
theorem looks_any (A : Option Addr) (n c : Nat) (x y : Int) (l : List Opp) (w : World) (h : OpsT w w.heap.size A l) (hl : l.length = n) (hn : n ≤ 140737488351232) (hx : I64 x) (hy : I64 y) :
    Calls Try.prog 8 #[.slice A n c, .int .i64 x, .int .i64 y] w fun e w' => e = .returned (.bool true) ∧ Below w.heap.size w w' := by
  have HOPS := Lib.hid h
  have HLN := Lib.hid hl
  have HIX := Lib.hid hx
  have HIY := Lib.hid hy
  have HFT := Lib.hid (fun w' (hb : Below w.heap.size w w') => fits_any A n c w.heap.size l w' (h.below hb (Nat.le_refl _)) hb.size hl hn)
  clear h hl hx hy
  go_enter Try.func8, Try.ntmps8
  go_wp2_with fail
  refine (lives_any _).mono ?_
  rintro e w1 ⟨rfl, hb1⟩
  have HB1 := Lib.hid hb1
  clear hb1
  go_wp2_with fail
  refine (HFT.out _ HB1.out).mono ?_
  rintro e w2 ⟨rfl, hb2⟩
  have HB2 := Lib.hid (HB1.out.trans (hb2.mono HB1.out.size))
  clear hb2
  cases hft : fitsB l
  · clear hft
    go_wp2_with fail
    refine (lives_any _).mono ?_
    rintro e w3 ⟨rfl, hb3⟩
    have HB3 := Lib.hid (HB2.out.trans (hb3.mono HB2.out.size))
    clear hb3
    go_wp2
    go_ret
    exact ⟨rfl, HB3.out⟩
  · have hfl : n ≤ 60 ∧ ∀ o ∈ l, o.data.length ≤ 300 := by
      unfold fitsB at hft
      simp only [Bool.and_eq_true, List.all_eq_true, decide_eq_true_eq] at hft
      exact ⟨by rw [← HLN.out]; exact hft.2, hft.1⟩
    have hn60 := hfl.1
    have HDAT := Lib.hid hfl.2
    clear hft hfl hn
    go_wp2_with fail
    refine (new_any 4 w2 (by decide) (by decide)).mono ?_
    rintro e w3 ⟨v, rfl, ⟨y1, y2, y3, rfl, hp⟩, hb3⟩
    have HO3 := Lib.hid hp.ones
    have HV3 := Lib.hid (var_new hp)
    have HB3 : Hid (Below w.heap.size w (w3.alloc (.cells #[y1, y2, y3] 29))) := (HB2.out.trans (hb3.mono HB2.out.size)).alloc (by have := HB2.out.size; have := hb3.size; omega) _
    have HNW : Hid (w.heap.size ≤ w3.heap.size) := Nat.le_trans HB2.out.size hb3.size
    clear hp hb3
    go_upto_region 4 with (refine wpList_store_new rfl 29 _ _ rfl w3 #[.slice none 0 0, .slice none 0 0, .slice none 0 0] #[y1, y2, y3] rfl rfl (by kernel_rfl) rfl HO3.out ?_)
    generalize w3.alloc (.cells #[y1, y2, y3] 29) = w4 at HV3 HB3 ⊢
    generalize w3.heap.size = N at HV3 HNW ⊢
    have HR3 : Hid (RightH (List.replicate (64 * 4) 0) [] (List.replicate 4 false)) := RightH.new (by decide) (by decide)
    go_wp2
    go_loopw [32] (fun t32 wr => ∃ (k : Nat) (B : List UInt8) (L : List Bk) (D : List Bool), k ≤ n ∧ t32 = .int .i64 (k : Int) ∧ Hid (VarH N B L D wr) ∧ Hid (RightH B L D) ∧ Hid (D.length = 4) ∧ Hid (Below w.heap.size w wr)) (fun t32 _ => n - (intOf t32).toNat)
    case atStart => exact ⟨0, _, _, _, Nat.zero_le _, rfl, HV3, HR3, Lib.hid (by simp), HB3⟩
    case round =>
      obtain ⟨k, B, L, D, hk, rfl, HVAR, HR, HD4, HBEL⟩ := hrel
      by_cases hlt : k < n
      · obtain ⟨o, ho⟩ : ∃ o, l[k]? = some o := ⟨_, List.getElem?_eq_getElem (by rw [HLN.out]; exact hlt)⟩
        obtain ⟨ad, A', cc, rfl, -, hcs, hrd, hAn, hdc, hcc, hik, hia, hin⟩ := (HOPS.out k o ho).below HBEL.out (Nat.le_refl _)
        have HEL := Lib.hid hcs
        have HRD := Lib.hid hrd
        have HIA := Lib.hid hia
        have HIN := Lib.hid hin
        have HAN := Lib.hid hAn
        have HDL : Hid (o.data.length ≤ 300) := HDAT.out o (List.mem_of_getElem? ho)
        obtain ⟨dm, hdm⟩ : ∃ dm, o.data.length = dm := ⟨_, rfl⟩
        rw [hdm] at HEL HDL
        have HDM := Lib.hid hdm
        obtain ⟨v1, v2, v3, hx, hp⟩ := HVAR.out
        obtain ⟨A1, c1, A2, c2, A3, c3, rfl, rfl, rfl⟩ := hp.forms
        obtain ⟨nb, hnb⟩ : ∃ k, B.length = k := ⟨_, rfl⟩
        obtain ⟨nk, hnk⟩ : ∃ k, L.length = k := ⟨_, rfl⟩
        obtain ⟨nd, hnd⟩ : ∃ k, D.length = k := ⟨_, rfl⟩
        rw [hnb, hnk, hnd] at hx hp
        have HX := Lib.hid (old_alloc hx (.cells #[.int .i64 o.kind, .int .i64 o.at_, .int .i64 o.n, .slice A' dm cc, .bool o.short] 38))
        have HP := Lib.hid (hp.alloc (.cells #[.int .i64 o.kind, .int .i64 o.at_, .int .i64 o.n, .slice A' dm cc, .bool o.short] 38))
        have HY := Lib.hid (heap_alloc_new wr (.cells #[.int .i64 o.kind, .int .i64 o.at_, .int .i64 o.n, .slice A' dm cc, .bool o.short] 38))
        have HB2 := Lib.hid (HBEL.out.alloc HBEL.out.size (.cells #[.int .i64 o.kind, .int .i64 o.at_, .int .i64 o.n, .slice A' dm cc, .bool o.short] 38))
        have HRD2 := Lib.hid (hrd.alloc HBEL.out.size (.cells #[.int .i64 o.kind, .int .i64 o.at_, .int .i64 o.n, .slice A' dm cc, .bool o.short] 38))
        have hNlt := row_lt hx
        have HNL : Hid (w.heap.size ≤ N) := HNW.out
        unfold opC at HEL
        have hr4 : (IntKind.u64.wrap o.kind).tmod 4 = 0 ∨ (IntKind.u64.wrap o.kind).tmod 4 = 1 ∨ (IntKind.u64.wrap o.kind).tmod 4 = 2 ∨ (IntKind.u64.wrap o.kind).tmod 4 = 3 := by
          obtain ⟨r, hr, hr4⟩ := u64_rem o.kind 4 (by decide) (by decide)
          change (IntKind.u64.wrap o.kind).tmod 4 = (r : Int) at hr
          omega
        have HIK := Lib.hid hik
        clear hcs hrd hAn hdc hcc hia hin hx hp hnb hnk hnd ho hdm hik
        go_upto_region 7 with (first | refine wpList_load_at rfl 38 _ rfl (ad.add (k * 5)) rfl [.int .i64 o.kind, .int .i64 o.at_, .int .i64 o.n, .slice A' dm cc, .bool o.short] _ HEL.out Try.underlying38 rfl (by kernel_rfl) ?_)
        generalize wr.alloc (.cells #[.int .i64 o.kind, .int .i64 o.at_, .int .i64 o.n, .slice A' dm cc, .bool o.short] 38) = w5 at HX HY HB2 HP HRD2 ⊢
        generalize wr.heap.size = b5 at HY hNlt ⊢
        obtain ⟨f0, f1, f2, f3, f4⟩ := five_cells HY.out
        rcases hr4 with hr | hr | hr | hr
        · go_wp2_with (refine wpList_load_row rfl 29 _ rfl N rfl 29 #[.slice A1 nb c1, .slice A2 nk c2, .slice A3 nd c3] (0, 0) _ HX.out Try.underlying29 rfl (by kernel_rfl) ?_)
          refine (alloc_any o.n w5 ⟨_, _, _, rfl, HP.out⟩ HR.out HIN.out).mono ?_
          rintro e w6 ⟨v', rfl, ⟨z1, z2, z3, rfl, hp6⟩, hb6⟩
          have hx6 := old_below HX.out hb6 (row_lt HX.out)
          have HXX := Lib.hid hx6
          have HO6 := Lib.hid hp6.ones
          have HV6 := Lib.hid (var_set hp6 hx6)
          have HB6 : Hid (Below w.heap.size w (w6.setRow N #[z1, z2, z3])) := below_setRow (HB2.out.trans (hb6.mono HB2.out.size)) HNL.out _
          have HR6 := Lib.hid (HR.out.alloc o.n)
          clear hp6 hx6 hb6 f0 f1 f2 f3 f4
          go_wp2_with (refine wpList_store_row rfl 29 _ _ rfl N #[z1, z2, z3] rfl rfl 29 _ HXX.out (by kernel_rfl) rfl HO6.out ?_)
          go_roundw
          case rel => exact ⟨k + 1, _, _, _, by omega, by go_num, HV6, HR6, HD4, HB6⟩
          case measure => simp [intOf]; omega
        · go_wp2_with (refine wpList_load_row rfl 29 _ rfl N rfl 29 #[.slice A1 nb c1, .slice A2 nk c2, .slice A3 nd c3] (0, 0) _ HX.out Try.underlying29 rfl (by kernel_rfl) ?_)
          refine (store_any o.at_ A' cc dm 0 w.heap.size o.data w5 ⟨_, _, _, rfl, HP.out⟩ HR.out HIA.out HDM.out (by have := HDL.out; omega) HAN.out HRD2.out (Nat.le_trans HB2.out.size (Nat.le_refl _))).mono ?_
          rintro e w6 ⟨v', rfl, ⟨z1, z2, z3, rfl, hp6⟩, hb6⟩
          have hx6 := old_below HX.out hb6 (row_lt HX.out)
          have HXX := Lib.hid hx6
          have HO6 := Lib.hid hp6.ones
          have HV6 := Lib.hid (var_set hp6 hx6)
          have HB6 : Hid (Below w.heap.size w (w6.setRow N #[z1, z2, z3])) := below_setRow (HB2.out.trans (hb6.mono HB2.out.size)) HNL.out _
          have HR6 := Lib.hid (HR.out.store o.at_ o.data)
          clear hp6 hx6 hb6 f0 f1 f2 f3 f4
          go_wp2_with (refine wpList_store_row rfl 29 _ _ rfl N #[z1, z2, z3] rfl rfl 29 _ HXX.out (by kernel_rfl) rfl HO6.out ?_)
          go_roundw
          case rel => exact ⟨k + 1, _, _, _, by omega, by go_num, HV6, HR6, Lib.hid (by rw [store_len]; exact HD4.out), HB6⟩
          case measure => simp [intOf]; omega
        · go_wp2_with (refine wpList_load_row rfl 29 _ rfl N rfl 29 #[.slice A1 nb c1, .slice A2 nk c2, .slice A3 nd c3] (0, 0) _ HX.out Try.underlying29 rfl (by kernel_rfl) ?_)
          refine (store_any o.at_ A' cc dm 0 w.heap.size o.data w5 ⟨_, _, _, rfl, HP.out⟩ HR.out HIA.out HDM.out (by have := HDL.out; omega) HAN.out HRD2.out (Nat.le_trans HB2.out.size (Nat.le_refl _))).mono ?_
          rintro e w6 ⟨v', rfl, ⟨z1, z2, z3, rfl, hp6⟩, hb6⟩
          have hx6 := old_below HX.out hb6 (row_lt HX.out)
          have HXX := Lib.hid hx6
          have HO6 := Lib.hid hp6.ones
          have HV6 := Lib.hid (var_set hp6 hx6)
          have HB6 : Hid (Below w.heap.size w (w6.setRow N #[z1, z2, z3])) := below_setRow (HB2.out.trans (hb6.mono HB2.out.size)) HNL.out _
          have HR6 := Lib.hid (HR.out.store o.at_ o.data)
          clear hp6 hx6 hb6 f0 f1 f2 f3 f4
          go_wp2_with (refine wpList_store_row rfl 29 _ _ rfl N #[z1, z2, z3] rfl rfl 29 _ HXX.out (by kernel_rfl) rfl HO6.out ?_)
          go_roundw
          case rel => exact ⟨k + 1, _, _, _, by omega, by go_num, HV6, HR6, Lib.hid (by rw [store_len]; exact HD4.out), HB6⟩
          case measure => simp [intOf]; omega
        · go_wp2_with (refine wpList_load_row rfl 29 _ rfl N rfl 29 #[.slice A1 nb c1, .slice A2 nk c2, .slice A3 nd c3] (0, 0) _ HX.out Try.underlying29 rfl (by kernel_rfl) ?_)
          refine (tell_any o.at_ w5 ⟨_, _, _, rfl, HP.out⟩ HR.out HIA.out).mono ?_
          rintro e w6 ⟨v', u, rfl, ⟨z1, z2, z3, rfl, hp6⟩, -, hb6⟩
          have hx6 := old_below HX.out hb6 (row_lt HX.out)
          have HXX := Lib.hid hx6
          have HO6 := Lib.hid hp6.ones
          have HV6 := Lib.hid (var_set hp6 hx6)
          have HB6 : Hid (Below w.heap.size w (w6.setRow N #[z1, z2, z3])) := below_setRow (HB2.out.trans (hb6.mono HB2.out.size)) HNL.out _
          have HR6 := Lib.hid (HR.out.tell o.at_)
          clear hp6 hx6 hb6 f0 f1 f2 f3 f4
          go_wp2_with (refine wpList_store_row rfl 29 _ _ rfl N #[z1, z2, z3] rfl rfl 29 _ HXX.out (by kernel_rfl) rfl HO6.out ?_)
          go_roundw
          case rel => exact ⟨k + 1, _, _, _, by omega, by go_num, HV6, HR6, Lib.hid (by rw [tell_len]; exact HD4.out), HB6⟩
          case measure => simp [intOf]; omega
      · obtain rfl : k = n := by omega
        obtain ⟨v1, v2, v3, hx, hp⟩ := HVAR.out
        obtain ⟨A1, c1, A2, c2, A3, c3, rfl, rfl, rfl⟩ := hp.forms
        obtain ⟨nb, hnb⟩ : ∃ k, B.length = k := ⟨_, rfl⟩
        obtain ⟨nk, hnk⟩ : ∃ k, L.length = k := ⟨_, rfl⟩
        obtain ⟨nd, hnd⟩ : ∃ k, D.length = k := ⟨_, rfl⟩
        rw [hnb, hnk, hnd] at hx hp
        have HX := Lib.hid hx
        have HP := Lib.hid hp
        have hby := HR.out.bytes
        have hmy := HR.out.many
        have HCL := Lib.hid (clone_any B L D 0 (.agg #[.slice A1 nb c1, .slice A2 nk c2, .slice A3 nd c3]) wr ⟨_, _, _, rfl, hp⟩ (by omega) (by omega) (by have := HD4.out; omega))
        have HNB := Lib.hid hnb
        have HNK := Lib.hid hnk
        have HND := Lib.hid hnd
        clear hx hp hby hmy hnb hnk hnd
        go_wp2_with (refine wpList_load_row rfl 29 _ rfl N rfl 29 #[.slice A1 nb c1, .slice A2 nk c2, .slice A3 nd c3] (0, 0) _ HX.out Try.underlying29 rfl (by kernel_rfl) ?_)
        refine HCL.out.mono ?_
        rintro e w6 ⟨v', rfl, ⟨z1, z2, z3, rfl, hp6⟩, hb6⟩
        have HO6 := Lib.hid hp6.ones
        obtain ⟨A4, c4, A5, c5, A6, c6, rfl, rfl, rfl⟩ := hp6.formsN HNB.out HNK.out HND.out
        have hb7 : Below wr.heap.size wr (w6.alloc (.cells #[.slice A4 nb c4, .slice A5 nk c5, .slice A6 nd c6] 29)) := hb6.alloc hb6.size _
        have HX7 := Lib.hid (old_below HX.out hb7 (row_lt HX.out))
        have HP7 := Lib.hid (HP.out.below hb7)
        have HW7 := Lib.hid (heap_alloc_new w6 (.cells #[.slice A4 nb c4, .slice A5 nk c5, .slice A6 nd c6] 29))
        have HQ7 := Lib.hid ((hp6.wide (Nat.zero_le _)).alloc (.cells #[.slice A4 nb c4, .slice A5 nk c5, .slice A6 nd c6] 29))
        have HB7 := Lib.hid (HBEL.out.trans (hb7.mono HBEL.out.size))
        clear hp6 hb6 hb7
        go_upto_region 16 with (first | refine wpList_store_new rfl 29 _ _ rfl w6 #[.slice none 0 0, .slice none 0 0, .slice none 0 0] #[.slice A4 nb c4, .slice A5 nk c5, .slice A6 nd c6] rfl rfl (by kernel_rfl) rfl HO6.out ?_)
        generalize w6.alloc (.cells #[.slice A4 nb c4, .slice A5 nk c5, .slice A6 nd c6] 29) = w7 at HX7 HP7 HW7 HQ7 HB7 ⊢
        generalize w6.heap.size = M at HW7 ⊢
        have hll := load_len (x := x) (n := y) HNB.out (by rw [← HNB.out]; exact HR.out.blk)
        have HLO := load_any x y w7 ⟨_, _, _, rfl, HP7.out⟩ HR.out HIX.out HIY.out
        obtain ⟨lb, er, hle⟩ : ∃ lb er, loadO B L x y = (lb, er) := ⟨_, _, rfl⟩
        rw [hle] at hll HLO
        have HLS : Hid (lb.length ≤ 4096) := by show _ ≤ _; have := load_small B L x y; rw [hle] at this; have h2 := HR.out.bytes; simp only at this; omega
        have HLL := Lib.hid hll
        have HLO := Lib.hid HLO
        clear hll hle
        go_wp2_with (refine wpList_load_row rfl 29 _ rfl N rfl 29 #[.slice A1 nb c1, .slice A2 nk c2, .slice A3 nd c3] (0, 0) _ HX7.out Try.underlying29 rfl (by kernel_rfl) ?_)
        refine HLO.out.mono ?_
        rintro e w8 ⟨u, rfl, ho8, hb8⟩
        obtain ⟨m, hm⟩ : ∃ m, lb.length = m := ⟨_, rfl⟩
        rw [hm] at ho8
        obtain ⟨Au, cu, rfl, hmc, hcm, hAu⟩ := ownk_form ho8
        have HM := Lib.hid hm
        have HO8 := Lib.hid ho8
        have HX8 := Lib.hid (old_below HX7.out hb8 (row_lt HX7.out))
        have HP8 := Lib.hid (HP7.out.below hb8)
        have HB8 := Lib.hid hb8
        have HWR := Lib.hid (written_any w8 ⟨_, _, _, rfl, HP8.out⟩ (by have := HD4.out; omega))
        clear ho8 hm hb8 hmc hcm hAu
        go_wp2_with (refine wpList_load_row rfl 29 _ rfl N rfl 29 #[.slice A1 nb c1, .slice A2 nk c2, .slice A3 nd c3] (0, 0) _ HX8.out Try.underlying29 rfl (by kernel_rfl) ?_)
        refine HWR.out.mono ?_
        rintro e w9 ⟨ui, rfl, ho9, hb9⟩
        obtain ⟨pl, hpl⟩ : ∃ m, (pagesTo D D.length).length = m := ⟨_, rfl⟩
        rw [hpl] at ho9
        obtain ⟨Ai, ci, rfl, -, -, -⟩ := ownk_form ho9
        have HPL := Lib.hid hpl
        have HO9 := Lib.hid ho9
        have HU9 := Lib.hid (ownk_below HO8.out hb9 (Nat.le_refl _))
        have HB9 := Lib.hid (HB8.out.trans (hb9.mono HB8.out.size))
        have HM30 : Hid (m ≤ 4096) := by
          show _ ≤ _
          rw [← HM.out]
          exact HLS.out
        clear ho9 hpl hb9
        go_wp2
        go_loopw [84] (fun t84 wr => ∃ (k : Nat) (xs : List Value), k ≤ m ∧ t84 = .int .i64 (k : Int) ∧ Hid (wr.ownsRow w7.heap.size 5 1 (.slice Au m cu) m xs) ∧ Hid (∀ v ∈ xs, ∃ z, v = .int .u8 z) ∧ Hid (Below w7.heap.size w7 wr) ∧ Hid (wr.ownsRow w8.heap.size 3 1 (.slice Ai pl ci) pl (ints (pagesTo D D.length)))) (fun t84 _ => m - (intOf t84).toNat)
        case atStart => exact ⟨0, _, Nat.zero_le _, rfl, HU9, Lib.hid (fun v hv => by simp [cells] at hv; obtain ⟨z, _, rfl⟩ := hv; exact ⟨_, rfl⟩), HB9, HO9⟩
        case round =>
          obtain ⟨k, xs, hk, rfl, HU, HZS, HBW, HIN⟩ := hrel
          by_cases hlt : k < m
          · have hm30 := HM30.out
            obtain ⟨v, hv⟩ : ∃ v, xs[k]? = some v := ⟨_, List.getElem?_eq_getElem (by have := HU.out.1; rw [Nat.mul_one] at this; omega)⟩
            obtain ⟨z, rfl⟩ := HZS.out v (List.mem_of_getElem? hv)
            obtain ⟨gu, cq, curq, e1, hgu, hgc, -⟩ := ownk_some HU.out (by omega)
            injection e1 with e1 _ e3
            subst e1 e3
            have hcell := own_cell HU.out hv
            have hfz := frozen_of_row wr gu k curq _ hgc
            have HU2 : Hid ((wr.setCell ⟨gu, k, none⟩ (.int .u8 (IntKind.u8.wrap (z + 1)))).ownsRow w7.heap.size 5 1 (.slice (some ⟨gu, 0, none⟩) m cu) m (xs.set k (.int .u8 (IntKind.u8.wrap (z + 1))))) := own_put HU.out hlt rfl
            have HZ2 : Hid (∀ v ∈ xs.set k (.int .u8 (IntKind.u8.wrap (z + 1))), ∃ z, v = .int .u8 z) := fun v hv => by
              rcases List.mem_or_eq_of_mem_set hv with h | h
              · exact HZS.out v h
              · exact ⟨_, h⟩
            have HBW2 : Hid (Below w7.heap.size w7 (wr.setCell ⟨gu, k, none⟩ (.int .u8 (IntKind.u8.wrap (z + 1))))) := HBW.out.setCell hgu _
            have HIN2 : Hid ((wr.setCell ⟨gu, k, none⟩ (.int .u8 (IntKind.u8.wrap (z + 1)))).ownsRow w8.heap.size 3 1 (.slice Ai pl ci) pl (ints (pagesTo D D.length))) := ownk_other HIN.out hgc (by decide) fun j hj => heap_setCell_other _ _ _ _ hj
            clear hv hgc
            go_wp2
            go_roundw
            case rel => exact ⟨k + 1, _, by omega, by go_num, HU2, HZ2, HBW2, HIN2⟩
            case measure => simp [intOf]; omega
          · obtain rfl : k = m := by omega
            have HX9 := Lib.hid (old_below HX7.out HBW.out (row_lt HX7.out))
            have HP9 := Lib.hid (HP7.out.below HBW.out)
            have HW9 := Lib.hid (old_below HW7.out HBW.out (row_lt HW7.out))
            have HQ9 := Lib.hid (HQ7.out.below HBW.out)
            have HB10 := Lib.hid (HB7.out.trans (HBW.out.mono HB7.out.size))
            have hpls : pl ≤ 4 := by rw [← HPL.out]; have := pages_le D D.length; have := HD4.out; omega
            clear HOPS HDAT HLN HFT HNW HB1 HB2 HB3 HV3 HR3 HO3
            go_wp2
            go_loopw [96] (fun t96 wz => ∃ k2 : Nat, k2 ≤ pl ∧ t96 = .int .i64 (k2 : Int) ∧ wr = wz) (fun t96 _ => pl - (intOf t96).toNat)
            case atStart => exact ⟨0, Nat.zero_le _, rfl, rfl⟩
            case round =>
              obtain ⟨k2, hk2, rfl, rfl⟩ := hrel
              by_cases hlt2 : k2 < pl
              · obtain ⟨pp, hpp⟩ : ∃ p, (pagesTo D D.length)[k2]? = some p := ⟨_, List.getElem?_eq_getElem (by rw [HPL.out]; exact hlt2)⟩
                have hp4 : pp < 4 := by have := pages_mem (List.mem_of_getElem? hpp); have := HD4.out; omega
                obtain ⟨gi, cq, curq, e1, -⟩ := ownk_some HIN.out (by omega)
                injection e1 with e1 _ e3
                subst e1 e3
                have e0 := own_cell HIN.out (j := k2) (u := .int .i64 (pp : Int)) (by simp [ints, hpp])
                by_cases hk0 : k2 = 0
                · subst hk0
                  clear hpp
                  go_wp2
                  go_roundw
                  case rel => exact ⟨1, by omega, by go_num, trivial⟩
                  case measure => simp [intOf]; omega
                · obtain ⟨j, rfl⟩ : ∃ j, k2 = j + 1 := ⟨k2 - 1, by omega⟩
                  obtain ⟨qq, hqq⟩ : ∃ p, (pagesTo D D.length)[j]? = some p := ⟨_, List.getElem?_eq_getElem (by rw [HPL.out]; omega)⟩
                  have hlt3 : qq < pp := by
                    obtain ⟨i1, h1⟩ := List.getElem?_eq_some_iff.1 hqq
                    obtain ⟨i2, h2⟩ := List.getElem?_eq_some_iff.1 hpp
                    have := List.pairwise_iff_getElem.1 (pages_sorted D D.length) j (j + 1) i1 i2 (by omega)
                    rw [h1, h2] at this
                    exact this
                  have e2 := own_cell HIN.out (j := j) (u := .int .i64 (qq : Int)) (by simp [ints, hqq])
                  have hj1 : (j : Int) < (pl : Int) := by omega
                  clear hpp hqq
                  go_wp2
                  go_roundw
                  case rel => exact ⟨j + 1 + 1, by omega, by go_num, trivial⟩
                  case measure => simp [intOf]; omega
              · obtain rfl : k2 = pl := by omega
                obtain ⟨q0, q1, q2⟩ := three_cells HX9.out
                obtain ⟨s0, s1, s2⟩ := three_cells HW9.out
                have hs1 : (convert 25 9 (.slice A1 nb c1)).run Try.prog wr = .ok (.string ⟨B.toArray⟩) wr := by
                  have := run_text (P := Try.prog) wr 25 9 5 (l := B) c1 Try.underlying25 Try.underlying5 Try.underlying9 (ownk_rd (by have := HP9.out.1; rwa [HNB.out] at this))
                  rwa [HNB.out] at this
                have hs2 : (convert 25 9 (.slice A4 nb c4)).run Try.prog wr = .ok (.string ⟨B.toArray⟩) wr := by
                  have := run_text (P := Try.prog) wr 25 9 5 (l := B) c4 Try.underlying25 Try.underlying5 Try.underlying9 (ownk_rd (by have := HQ9.out.1; rwa [HNB.out] at this))
                  rwa [HNB.out] at this
                have HRT := Lib.hid (right_hp (w := wr) ⟨_, _, _, rfl, HP9.out⟩ HR.out)
                have hm30 := HM30.out
                by_cases her : er = 0
                · have hy := HLL.out her
                  rw [HM.out] at hy
                  subst her
                  subst hy
                  go_wp2_with (refine wpList_load_row rfl 29 _ rfl N rfl 29 #[.slice A1 nb c1, .slice A2 nk c2, .slice A3 nd c3] (0, 0) _ HX9.out Try.underlying29 rfl (by kernel_rfl) ?_)
                  refine HRT.out.mono ?_
                  rintro e w10 ⟨rfl, hb10⟩
                  have HB11 := Lib.hid (HB10.out.trans (hb10.mono HB10.out.size))
                  clear hb10
                  go_wp2
                  go_ret
                  exact ⟨rfl, HB11.out⟩
                · go_wp2_with (refine wpList_load_row rfl 29 _ rfl N rfl 29 #[.slice A1 nb c1, .slice A2 nk c2, .slice A3 nd c3] (0, 0) _ HX9.out Try.underlying29 rfl (by kernel_rfl) ?_)
                  refine HRT.out.mono ?_
                  rintro e w10 ⟨rfl, hb10⟩
                  have HB11 := Lib.hid (HB10.out.trans (hb10.mono HB10.out.size))
                  clear hb10
                  go_wp2
                  go_ret
                  exact ⟨rfl, HB11.out⟩
end Go.Proofs.Ytagajijjcjfopaa
