/-
  What RingPlays does with a ring and with the document's, where both hold the same. No condition.
-/
import Derived.Test.YtdbiledmokldjaaFul
import Derived.Deep.RegionWith
namespace Go.Proofs.Ytdbiledmokldjaa
open Go.RowKit

theorem rf_ones (n k : Int) (A1 A2 A3 : Option Addr) (l1 c1 l2 c2 l3 c3 : Nat) : (#[.int .i64 n, .slice A1 l1 c1, .slice A2 l2 c2, .slice A3 l3 c3, .int .i64 k] : Array Value).all (·.oneCell') = true :=
  all_one (cs := [.int .i64 n, .slice A1 l1 c1, .slice A2 l2 c2, .slice A3 l3 c3, .int .i64 k]) (by intro u hu; simp at hu; rcases hu with rfl | rfl | rfl | rfl | rfl <;> rfl)
theorem Rg.form_ {lo hi : Nat} {x : Rn} {w : World} {v : Value} (h : Rg lo hi x w v) : ∃ (A : Option Addr) (n c : Nat) (p t d r : Int), v = .agg #[.slice A n c, .int .u16 p, .int .u16 t, .int .u16 d, .int .u16 r] := by
  obtain ⟨S, A, c, vs, m, -, rfl, -⟩ := h
  exact ⟨A, _, c, _, _, _, _, rfl⟩
theorem Rf.form_ {x : Rn} {w : World} {v : Value} (h : Rf x w v) : ∃ (m : Int) (E : Option Addr) (i x : Nat) (F : Option Addr) (j y : Nat) (G : Option Addr) (k z : Nat) (o : Int), v = .agg #[.int .i64 m, .slice E i x, .slice F j y, .slice G k z, .int .i64 o] := by
  obtain ⟨A1, A2, A3, c1, c2, c3, rfl, -⟩ := h
  exact ⟨_, _, _, _, _, _, _, _, _, _, _, rfl⟩
/-- what is done with a ring -/
def stepX (q : Nat) (f : Fr) (x : Rn) : Rn := if q = 0 ∨ q = 1 then (postX x f).1 else if q = 2 then (takeX x).1 else if q = 3 then (finX x).1 else if q = 4 then (reapX x).1 else quietX x
theorem step_ok {x : Rn} (h : x.Ok) (q : Nat) (f : Fr) : (stepX q f x).Ok := by
  unfold stepX
  split
  · exact ok_post h f
  · split
    · exact ok_take h
    · split
      · exact ok_fin h
      · split
        · exact ok_reap h
        · exact ok_quiet h
theorem Rg.le {lo hi : Nat} {x : Rn} {w : World} {v : Value} (h : Rg lo hi x w v) : lo ≤ hi := by
  obtain ⟨S, A, c, vs, m, -, -, h1, h2⟩ := h
  exact Nat.le_trans h2 h1.le
theorem box_grown {w w' : World} {b base n : Nat} {C : Array Value} {t : TypeId} {fr : Nat × Nat} {v : Value} {xs : List Value} (hx : w.heap[b]? = some (.cells C t fr)) (ho : w.ownsRow base 5 1 v n xs) (hg : w.grownBy w' v.ownBlock) (hne : t ≠ 5) : w'.heap[b]? = some (.cells C t fr) :=
  (hg.block b (row_lt hx) fun e => hne (ownk_type ho e.symm hx)).trans hx
theorem SR.grown {w w' : World} {base n c : Nat} {A : Option Addr} {ps : List Fr} {v : Value} {xs : List Value} (h : SR w A c ps) (ho : w.ownsRow base 5 1 v n xs) (hg : w.grownBy w' v.ownBlock) : SR w' A c ps :=
  ⟨h.rd.keep fun k D _ hD => hg.block k (row_lt hD) fun e => absurd (ownk_type ho e.symm hD) (by decide), h.nil, h.cap⟩
theorem Rf.grown {w w' : World} {base n : Nat} {x : Rn} {u v : Value} {xs : List Value} (h : Rf x w u) (ho : w.ownsRow base 5 1 v n xs) (hg : w.grownBy w' v.ownBlock) : Rf x w' u := by
  obtain ⟨A1, A2, A3, c1, c2, c3, e, h1, h2, h3⟩ := h
  exact ⟨A1, A2, A3, c1, c2, c3, e, h1.grown ho hg, h2.grown ho hg, h3.grown ho hg⟩
theorem grown_set (w : World) (p : Addr) (u : Value) : w.grownBy (w.setCell p u) (some p.block) := ⟨rfl, rfl, rfl, by simp, fun k _ hk => heap_setCell_other w p k u (fun e => hk (by simp [e]))⟩
/-- both results laid, in either order -/
theorem step_end {w w5 : World} {z u : Array Value} {N lo hi : Nat} {x y : Rn} {o1 o2 : Array Value} (hh : Rg lo hi x w5 (.agg z)) (hw : N + 5 ≤ lo ∧ hi ≤ w5.heap.size) (hr : Rf y w5 (.agg u)) (hM : w5.heap[N + 3]? = some (.cells o1 29 (0, 0))) (hK : w5.heap[N + 4]? = some (.cells o2 32 (0, 0))) (hb : Below N w w5) :
    (((w5.setRow (N + 3) z).setRow (N + 4) u).heap[N + 3]? = some (.cells z 29 (0, 0)) ∧ ((w5.setRow (N + 3) z).setRow (N + 4) u).heap[N + 4]? = some (.cells u 32 (0, 0)) ∧ Rg lo hi x ((w5.setRow (N + 3) z).setRow (N + 4) u) (.agg z) ∧ Rf y ((w5.setRow (N + 3) z).setRow (N + 4) u) (.agg u) ∧ Below N w ((w5.setRow (N + 3) z).setRow (N + 4) u) ∧ hi ≤ ((w5.setRow (N + 3) z).setRow (N + 4) u).heap.size) ∧
    (((w5.setRow (N + 4) u).setRow (N + 3) z).heap[N + 3]? = some (.cells z 29 (0, 0)) ∧ ((w5.setRow (N + 4) u).setRow (N + 3) z).heap[N + 4]? = some (.cells u 32 (0, 0)) ∧ Rg lo hi x ((w5.setRow (N + 4) u).setRow (N + 3) z) (.agg z) ∧ Rf y ((w5.setRow (N + 4) u).setRow (N + 3) z) (.agg u) ∧ Below N w ((w5.setRow (N + 4) u).setRow (N + 3) z) ∧ hi ≤ ((w5.setRow (N + 4) u).setRow (N + 3) z).heap.size) := by
  have hM2 := setRow_heap w5 (N + 3) _ z _ _ hM
  have hK2 := setRow_heap w5 (N + 4) _ u _ _ hK
  have hMK : (w5.setRow (N + 3) z).heap[N + 4]? = some (.cells o2 32 (0, 0)) := (setRow_other _ _ _ _ (by omega)).trans hK
  have hKM : (w5.setRow (N + 4) u).heap[N + 3]? = some (.cells o1 29 (0, 0)) := (setRow_other _ _ _ _ (by omega)).trans hM
  refine ⟨⟨(setRow_other _ _ _ _ (by omega)).trans hM2, setRow_heap _ _ _ _ _ _ hMK, (hh.stay (Stay.row _ (by omega) _)).stay (Stay.row _ (by omega) _), (hr.other hM (by decide) (setRow_cells _ _ _)).other hMK (by decide) (setRow_cells _ _ _), below_setRow (below_setRow hb (by omega) _) (by omega) _, by simp [World.setRow]; omega⟩, ⟨setRow_heap _ _ _ _ _ _ hKM, (setRow_other _ _ _ _ (by omega)).trans hK2, (hh.stay (Stay.row _ (by omega) _)).stay (Stay.row _ (by omega) _), (hr.other hK (by decide) (setRow_cells _ _ _)).other hKM (by decide) (setRow_cells _ _ _), below_setRow (below_setRow hb (by omega) _) (by omega) _, by simp [World.setRow]; omega⟩⟩
theorem Stay.grown2 {lo hi : Nat} {w w' : World} {row : Option Nat} (hg : w.grownBy w' row) (hh : hi ≤ w.heap.size) (hr : ∀ g, row = some g → g < lo ∨ hi ≤ g) : Stay lo hi w w' := fun j h1 h2 => hg.block j (by omega) (fun e => by have := hr j e.symm; omega)
theorem take_small {x : Rn} (h : x.Ok) : (takeX x).2.1.length ≤ 214 := by
  obtain ⟨n, r, D, T, P⟩ := x
  cases P with
  | nil => simp [takeX]
  | cons f P => exact h.small f (by simp [Rn.all])
theorem reap_small {x : Rn} (h : x.Ok) : (reapX x).2.1.length ≤ 214 := by
  obtain ⟨n, r, D, T, P⟩ := x
  cases D with
  | nil => simp [reapX]
  | cons f D => exact h.small f (by simp [Rn.all])

set_option maxRecDepth 100000 in
set_option maxHeartbeats 16000000 in
theorem step_any {x : Rn} {lo hi : Nat} {hv xv : Value} (kd : Int) (A : Option Addr) (c hf q : Nat) (f : Fr) (w : World) (hh : Rg lo hi x w hv) (hhi : hi ≤ w.heap.size) (hx : Rf x w xv) (hR : x.Ok) (hm : f.length ≤ 300) (hA : A = none → c = 0) (hrd : Rd w 0 hf A (cells f)) (hhf : hf ≤ w.heap.size) (hq6 : q < 6) (hkq : (IntKind.u64.wrap kd).tmod 6 = (q : Int)) :
    Calls Try.prog 9 #[hv, xv, .agg #[.int .i64 kd, .slice A f.length c]] w fun e w' => ∃ v1 v2 lo' hi', e = .returned (.tuple #[v1, v2, .bool true]) ∧ Rg lo' hi' (stepX q f x) w' v1 ∧ w.heap.size ≤ lo' ∧ hi' ≤ w'.heap.size ∧ Rf (stepX q f x) w' v2 ∧ Below w.heap.size w w' := by
  obtain ⟨A0, n0, c0, p0, t0, d0, r0, rfl⟩ := hh.form_
  obtain ⟨m1, E1, i1, x1, F1, j1, y1, G1, k1, z1, o1, rfl⟩ := hx.form_
  obtain ⟨w1, hw1⟩ : ∃ w1, (((((w.alloc (.cells #[.slice A0 n0 c0, .int .u16 p0, .int .u16 t0, .int .u16 d0, .int .u16 r0] 29)).alloc (.cells #[.int .i64 m1, .slice E1 i1 x1, .slice F1 j1 y1, .slice G1 k1 z1, .int .i64 o1] 32)).alloc (.cells #[.int .i64 kd, .slice A f.length c] 37)).alloc (.cells #[.slice none 0 0, .int .u16 0, .int .u16 0, .int .u16 0, .int .u16 0] 29)).alloc (.cells #[.int .i64 0, .slice none 0 0, .slice none 0 0, .slice none 0 0, .int .i64 0] 32)) = w1 := ⟨_, rfl⟩
  obtain ⟨N, hN⟩ : ∃ N, w.heap.size = N := ⟨_, rfl⟩
  have hat := five_at w (.cells #[.slice A0 n0 c0, .int .u16 p0, .int .u16 t0, .int .u16 d0, .int .u16 r0] 29) (.cells #[.int .i64 m1, .slice E1 i1 x1, .slice F1 j1 y1, .slice G1 k1 z1, .int .i64 o1] 32) (.cells #[.int .i64 kd, .slice A f.length c] 37) (.cells #[.slice none 0 0, .int .u16 0, .int .u16 0, .int .u16 0, .int .u16 0] 29) (.cells #[.int .i64 0, .slice none 0 0, .slice none 0 0, .slice none 0 0, .int .i64 0] 32)
  rw [hw1, hN] at hat
  obtain ⟨hat0, hat1, hat2, hat3, hat4, hbl⟩ := hat
  have HB := Lib.hid hbl
  have HX := Lib.hid hat0
  have HXR := Lib.hid hat1
  have HXO := Lib.hid hat2
  have HYH := Lib.hid hat3
  have HYR := Lib.hid hat4
  have HG := Lib.hid (hh.below hbl (by omega))
  have HGL : Hid (hi ≤ w1.heap.size) := by have := hbl.size; show _ ≤ _; omega
  have HF := Lib.hid (hx.below hbl (by omega))
  have HRD := Lib.hid (hrd.below hbl (by omega))
  have HRDL : Hid (hf ≤ w1.heap.size) := by have := hbl.size; show _ ≤ _; omega
  have HRDN : Hid (hf ≤ N) := by show _ ≤ _; omega
  have HR := Lib.hid hR
  have HAN := Lib.hid hA
  have HNS : Hid (N + 5 ≤ w1.heap.size) := row_lt hat4
  rw [hN]
  clear hh hx hR hA hrd hat0 hat1 hat2 hat3 hat4 hbl hhi hhf
  go_enter Try.func9, Try.ntmps9
  go_upto_region 1 with (fail)
  clear hw1
  obtain ⟨f0, f1⟩ := two_cells HXO.out
  obtain ⟨i0, hi0, hz0, hz1, hz2⟩ := info_parts info_u8
  have hz3 : ((.int .u8 0) : Value).cells.size = 1 := rfl
  have hr : q = 0 ∨ q = 1 ∨ q = 2 ∨ q = 3 ∨ q = 4 ∨ q = 5 := by omega
  clear hq6
  rcases hr with rfl | rfl | rfl | rfl | rfl | rfl
  · have HSO : Hid (stepX 0 f x = (postX x f).1) := rfl
    have HOW : Hid ((w1.alloc (.cells #[] 5)).ownsRow w1.heap.size 5 1 (.slice (some ⟨w1.heap.size, 0, none⟩) 0 0) 0 []) := own_empty w1 5 1
    have R0 := Lib.hid (HRD.out.alloc HRDL.out (.cells #[] 5))
    obtain ⟨b0, b1⟩ := two_cells (old_alloc HXO.out (.cells #[] 5))
    go_upto_region 5 with (at_builtin; refine wpList_append_rdk (P := Try.prog) rfl _ _ 35 rfl w1.heap.size 5 i0 _ 1 1 Try.underlying35 hi0 hz0 hz1 hz2 hz3 (by omega) _ 0 [] rfl HOW.out A f.length c (cells f) rfl HAN.out (by rw [cells_length, Nat.mul_one]) R0.out (cells_one f) (by unfold maxLen; omega) (by omega) (by simp) ?_; intro v9 w2 hown2 hgrow2 _)
    have hb2 : Below w1.heap.size w1 w2 := ((Below.refl w1.heap.size w1).alloc (Nat.le_refl _) _).grown hgrow2 (by simp) fun g hg => (HOW.out.lt g hg).1
    have OF0 : Hid (w2.ownsRow w1.heap.size 5 1 v9 f.length (cells f)) := by show World.ownsRow _ _ _ _ _ _ _; simpa using hown2
    obtain ⟨A9, c9, rfl, -⟩ := ownk_form OF0.out
    have HB1S : Hid (N + 5 ≤ w1.heap.size) := HNS.out
    have HBS := HB1S
    have HX := Lib.hid (old_below HX.out hb2 (row_lt HX.out))
    have HXR := Lib.hid (old_below HXR.out hb2 (row_lt HXR.out))
    have HXO := Lib.hid (old_below HXO.out hb2 (row_lt HXO.out))
    have HYH := Lib.hid (old_below HYH.out hb2 (row_lt HYH.out))
    have HYR := Lib.hid (old_below HYR.out hb2 (row_lt HYR.out))
    have HF := Lib.hid (HF.out.below hb2)
    have HG := Lib.hid (HG.out.below hb2 HGL.out)
    have HGL := Lib.hid (Nat.le_trans HGL.out hb2.size)
    have HRD := Lib.hid (HRD.out.below hb2 HRDL.out)
    have HRDL := Lib.hid (Nat.le_trans HRDL.out hb2.size)
    have HB := Lib.hid (HB.out.trans (hb2.mono (by have := HB.out.size; have := HNS.out; omega)))
    have HNS : Hid (N + 5 ≤ _) := Nat.le_trans HNS.out hb2.size
    clear hb2
    clear f0 f1 b0 b1 hown2 hgrow2 HOW R0
    have OF := OF0
    clear OF0
    go_wp2_with (refine wpList_load_row rfl 29 _ rfl N rfl 29 #[.slice A0 n0 c0, .int .u16 p0, .int .u16 t0, .int .u16 d0, .int .u16 r0] (0, 0) _ HX.out Try.underlying29 rfl (by kernel_rfl) ?_)
    refine (rg_post HG.out HR.out HGL.out A9 c9 w1.heap.size w2.heap.size f (ownk_rd OF.out) (Nat.le_refl _) (own_none OF.out) (by omega)).mono ?_
    rintro e w3 ⟨v, rfl, hg, hb⟩
    have hH := Nat.le_refl w3.heap.size
    obtain ⟨A2, n2, c2, p2, t2, d2, r2, rfl⟩ := hg.form_
    have hbb := hb.alloc hb.size (.cells #[.slice A2 n2 c2, .int .u16 p2, .int .u16 t2, .int .u16 d2, .int .u16 r2] 29)
    have hn2 := (Below.refl w3.heap.size w3).alloc (Nat.le_refl _) (.cells #[.slice A2 n2 c2, .int .u16 p2, .int .u16 t2, .int .u16 d2, .int .u16 r2] 29)
    obtain ⟨lo2, hlo2⟩ : ∃ k, w2.heap.size = k := ⟨_, rfl⟩
    have HGN := Lib.hid (hg.below hn2 hH)
    have HZ := Lib.hid (heap_alloc_new w3 (.cells #[.slice A2 n2 c2, .int .u16 p2, .int .u16 t2, .int .u16 d2, .int .u16 r2] 29))
    have HPN : Hid (N + 4 < w3.heap.size) := row_lt (old_below HYR.out hb (row_lt HYR.out))
    have HGNL := Lib.hid (Nat.le_trans hH hn2.size)
    have HNL : Hid (N + 5 ≤ lo2) := by rw [← hlo2]; exact HNS.out
    rw [hlo2] at HGN
    have hOL : ∀ b, (Value.slice A9 f.length c9).ownBlock = some b → b < lo2 := fun b hb => by have := (OF.out.lt b hb).2; omega
    have HX := Lib.hid (old_below HX.out hbb (row_lt HX.out))
    have HXR := Lib.hid (old_below HXR.out hbb (row_lt HXR.out))
    have HXO := Lib.hid (old_below HXO.out hbb (row_lt HXO.out))
    have HYH := Lib.hid (old_below HYH.out hbb (row_lt HYH.out))
    have HYR := Lib.hid (old_below HYR.out hbb (row_lt HYR.out))
    have HF := Lib.hid (HF.out.below hbb)
    have OF := Lib.hid (ownk_below OF.out hbb (Nat.le_refl _))
    have HRD := Lib.hid (HRD.out.below hbb HRDL.out)
    have HRDL := Lib.hid (Nat.le_trans HRDL.out hbb.size)
    have HB := Lib.hid (HB.out.trans (hbb.mono (by have := HB.out.size; have := HNS.out; omega)))
    have HNS : Hid (N + 5 ≤ _) := Nat.le_trans HNS.out hbb.size
    clear hbb
    clear hg hb hH hn2
    go_upto_region 6 with (refine wpList_store_new rfl 29 _ _ rfl w3 #[.slice none 0 0, .int .u16 0, .int .u16 0, .int .u16 0, .int .u16 0] #[.slice A2 n2 c2, .int .u16 p2, .int .u16 t2, .int .u16 d2, .int .u16 r2] rfl rfl (by kernel_rfl) (rfl) (ring_ones _ _ _ _ _ _ _) ?_)
    generalize (w3.alloc (.cells #[.slice A2 n2 c2, .int .u16 p2, .int .u16 t2, .int .u16 d2, .int .u16 r2] 29)) = w4 at HGN HGNL HZ HX HXR HXO HYH HYR HF HRD HRDL HB HNS OF ⊢
    generalize w3.heap.size = P2 at *
    clear HG HGL
    go_wp2
    go_loopw [57] (fun tt wr => ∃ k : Nat, k ≤ f.length ∧ tt = .int .i64 (k : Int) ∧ Hid (wr.ownsRow w1.heap.size 5 1 (.slice A9 f.length c9) f.length (cells (incL f k))) ∧ Hid (w4.grownBy wr (Value.slice A9 f.length c9).ownBlock)) (fun tt _ => f.length - (intOf tt).toNat)
    case atStart => exact ⟨0, Nat.zero_le _, rfl, by rw [incL_zero]; exact OF, World.grownBy.refl _ _⟩
    case round =>
      obtain ⟨k, hk, rfl, HRW, HGR⟩ := hrel
      by_cases hks : k < f.length
      · obtain ⟨g, hA5, hg1, hg2, hcell⟩ := own_at HRW.out (incL_get f k hks)
        have hrow := HRW.out
        rw [hA5] at hrow
        have hfree : wr.frozen? ⟨g, k, none⟩ = false := hrow.frozenAt k
        have hst := hrow.stored k (.int .u8 ((f[k] + 1).toNat : Int))
        rw [incL_set f k hks] at hst
        obtain ⟨xx, hxx⟩ : ∃ x, f[k].toNat = x := ⟨_, rfl⟩
        have hxb : xx < 256 := by rw [← hxx]; exact f[k].toNat_lt
        have hinc : (((f[k] + 1).toNat : Nat) : Int) = IntKind.u8.wrap ((xx : Int) + 1) := by
          rw [IntKind.wrap_u8', UInt8.toNat_add, hxx]
          show ((_ : Nat) : Int) = _
          rw [show (1 : UInt8).toNat = 1 from rfl]
          omega
        rw [hinc] at hst
        rw [hxx] at hcell
        have HV9 := Lib.hid hst.1
        have HG9 : Hid (w4.grownBy (wr.setCell ⟨g, k, none⟩ (.int .u8 (IntKind.u8.wrap ((xx : Int) + 1)))) (Value.slice (some ⟨g, 0, none⟩) f.length c9).ownBlock) := by
          have h1 := HGR.out
          rw [hA5] at h1
          exact h1.trans (grown_set wr ⟨g, k, none⟩ _)
        rw [hA5]
        clear hst hrow hinc hxx hg1 hg2 HRW HGR OF HGN HGNL HZ HX HXR HXO HYH HYR HF HRD HRDL HB HNS hA5
        go_wp2
        go_roundw
        case rel => exact ⟨k + 1, by omega, by go_num, HV9, HG9⟩
        case measure => simp [intOf]; omega
      · have hkn : ¬ (k : Int) < (f.length : Int) := by omega
        clear hk hks HRW
        have hbf : ∀ b, (Value.slice A9 f.length c9).ownBlock = some b → w1.heap.size ≤ b ∧ b < w4.heap.size := fun b hb => OF.out.lt b hb
        have HX := Lib.hid (box_grown HX.out OF.out HGR.out (by decide))
        have HXR := Lib.hid (box_grown HXR.out OF.out HGR.out (by decide))
        have HXO := Lib.hid (box_grown HXO.out OF.out HGR.out (by decide))
        have HYH := Lib.hid (box_grown HYH.out OF.out HGR.out (by decide))
        have HYR := Lib.hid (box_grown HYR.out OF.out HGR.out (by decide))
        have HZ := Lib.hid (box_grown HZ.out OF.out HGR.out (by decide))
        have HF := Lib.hid (HF.out.grown OF.out HGR.out)
        have HGN := Lib.hid (HGN.out.stay (Stay.grown2 HGR.out HGNL.out (fun b hb => .inl (hOL b hb))))
        have HGNL := Lib.hid (Nat.le_trans HGNL.out HGR.out.size)
        have HRD := Lib.hid (HRD.out.stay (Stay.grown2 HGR.out HRDL.out (fun b hb => .inr (by have := hbf b hb; have := HRDN.out; have := HB1S.out; omega))))
        have HRDL := Lib.hid (Nat.le_trans HRDL.out HGR.out.size)
        have HB : Hid (Below N w wr) := HB.out.trans ⟨HGR.out.os, HGR.out.tape, HGR.out.output, HGR.out.size, fun b hb => HGR.out.block b (by have := HB.out.size; omega) (fun e => by have := hbf b e.symm; have := HBS.out; omega)⟩
        have HNS : Hid (N + 5 ≤ wr.heap.size) := Nat.le_trans HNS.out HGR.out.size
        clear HGR OF hbf
        generalize wr = w5 at *
        obtain ⟨f0, f1⟩ := two_cells HXO.out
        have hcv : (convert 35 9 (.slice A f.length c)).run Try.prog w5 = .ok (.string ⟨f.toArray⟩) w5 := run_text (P := Try.prog) w5 35 9 5 (l := f) c Try.underlying35 Try.underlying5 Try.underlying9 (HRD.out)
        go_wp2_with (refine wpList_load_row rfl 32 _ rfl (N + 1) rfl 32 #[.int .i64 m1, .slice E1 i1 x1, .slice F1 j1 y1, .slice G1 k1 z1, .int .i64 o1] (0, 0) _ HXR.out Try.underlying32 rfl (by kernel_rfl) ?_)
        refine (rf_post f w5 HF.out HR.out (by omega)).mono ?_
        rintro e w6 ⟨v, rfl, hf, hb⟩
        obtain ⟨m3, E3, i3, x3, F3, j3, y3, G3, k3, z3, o3, rfl⟩ := hf.form_
        have hbb := hb.alloc hb.size (.cells #[.int .i64 m3, .slice E3 i3 x3, .slice F3 j3 y3, .slice G3 k3 z3, .int .i64 o3] 32)
        have HFN := Lib.hid (hf.below ((Below.refl w6.heap.size w6).alloc (Nat.le_refl _) (.cells #[.int .i64 m3, .slice E3 i3 x3, .slice F3 j3 y3, .slice G3 k3 z3, .int .i64 o3] 32)))
        have HU := Lib.hid (heap_alloc_new w6 (.cells #[.int .i64 m3, .slice E3 i3 x3, .slice F3 j3 y3, .slice G3 k3 z3, .int .i64 o3] 32))
        have HPM : Hid (N + 4 < w6.heap.size) := row_lt (old_below HYR.out hb (row_lt HYR.out))
        have HYH := Lib.hid (old_below HYH.out hbb (row_lt HYH.out))
        have HYR := Lib.hid (old_below HYR.out hbb (row_lt HYR.out))
        have HZ := Lib.hid (old_below HZ.out hbb (row_lt HZ.out))
        have HGN := Lib.hid (HGN.out.below hbb HGNL.out)
        have HGNL := Lib.hid (Nat.le_trans HGNL.out hbb.size)
        have HB := Lib.hid (HB.out.trans (hbb.mono (by have := HB.out.size; have := HNS.out; omega)))
        have HNS : Hid (N + 5 ≤ _) := Nat.le_trans HNS.out hbb.size
        clear hbb
        clear hf hb hcv f0 f1
        go_upto_region 12 with (refine wpList_store_new rfl 32 _ _ rfl w6 #[.int .i64 0, .slice none 0 0, .slice none 0 0, .slice none 0 0, .int .i64 0] #[.int .i64 m3, .slice E3 i3 x3, .slice F3 j3 y3, .slice G3 k3 z3, .int .i64 o3] rfl rfl (by kernel_rfl) (rfl) (rf_ones _ _ _ _ _ _ _ _ _ _ _) ?_)
        generalize (w6.alloc (.cells #[.int .i64 m3, .slice E3 i3 x3, .slice F3 j3 y3, .slice G3 k3 z3, .int .i64 o3] 32)) = w7 at HFN HU HYH HYR HZ HGN HGNL HB HNS  ⊢
        generalize w6.heap.size = P4 at *
        have HGNW : Hid (N + 5 ≤ lo2 ∧ _ ≤ w7.heap.size) := ⟨HNL.out, HGNL.out⟩
        have HEND := Lib.hid (step_end HGN.out HGNW.out HFN.out HYH.out HYR.out HB.out)
        obtain ⟨a0, a1, a2, a3, a4⟩ := five_cells HZ.out
        obtain ⟨b0, b1, b2, b3, b4⟩ := five_cells HU.out
        obtain ⟨q0, q1, q2, q3, q4⟩ := five_cells HYH.out
        obtain ⟨s0, s1, s2, s3, s4⟩ := five_cells HYR.out
        have g0 := frozen_of_row w7 (N + 3) 0 _ _ HYH.out
        have l0 := frozen_of_row w7 (N + 4) 0 _ _ HYR.out
        have g1 := frozen_of_row w7 (N + 3) 1 _ _ HYH.out
        have l1 := frozen_of_row w7 (N + 4) 1 _ _ HYR.out
        have g2 := frozen_of_row w7 (N + 3) 2 _ _ HYH.out
        have l2 := frozen_of_row w7 (N + 4) 2 _ _ HYR.out
        have g3 := frozen_of_row w7 (N + 3) 3 _ _ HYH.out
        have l3 := frozen_of_row w7 (N + 4) 3 _ _ HYR.out
        have g4 := frozen_of_row w7 (N + 3) 4 _ _ HYH.out
        have l4 := frozen_of_row w7 (N + 4) 4 _ _ HYR.out
        have ne1 : ¬ N + 1 + 1 + 1 = P2 := by have := HPN.out; omega
        have ne2 : ¬ N + 1 + 1 + 1 = P4 := by have := HPM.out; omega
        have ne3 : ¬ N + 1 + 1 + 1 + 1 = P2 := by have := HPN.out; omega
        have ne4 : ¬ N + 1 + 1 + 1 + 1 = P4 := by have := HPM.out; omega
        have ne5 : ¬ P2 = N + 1 + 1 + 1 := by have := HPN.out; omega
        have ne6 : ¬ P4 = N + 1 + 1 + 1 := by have := HPM.out; omega
        have ne7 : ¬ P2 = N + 1 + 1 + 1 + 1 := by have := HPN.out; omega
        have ne8 : ¬ P4 = N + 1 + 1 + 1 + 1 := by have := HPM.out; omega
        skip
        go_region
        all_goals first
          | (rw [row5 HYH.out, row5 (w := w7.setRow (N + 3) _) ((setRow_other _ _ _ _ (by omega)).trans HYR.out)]
             go_wp2
             refine ret_cct (g := N + 3) (g2 := N + 4) rfl rfl rfl (t := 29) (t2 := 32) (fr := (0, 0)) (fr2 := (0, 0)) HEND.out.1.1 Try.underlying29 rfl (by kernel_rfl) HEND.out.1.2.1 Try.underlying32 rfl (by kernel_rfl) rfl ?_
             rw [HSO.out]
             first | exact ⟨_, _, _, _, rfl, HEND.out.1.2.2.1.below (below_drewN' (Below.refl _ _) 1) HEND.out.1.2.2.2.2.2, Nat.le_trans (by omega : N ≤ N + 5) HNL.out, HEND.out.1.2.2.2.2.2, HEND.out.1.2.2.2.1.below (below_drewN' (Below.refl _ _) 1), below_drewN' HEND.out.1.2.2.2.2.1 1⟩ | exact ⟨_, _, rfl, _, _, HEND.out.1.2.2.1.below (below_drewN' (Below.refl _ _) 1) HEND.out.1.2.2.2.2.2, Nat.le_trans (by omega : N ≤ N + 5) HNL.out, HEND.out.1.2.2.2.2.2, HEND.out.1.2.2.2.1.below (below_drewN' (Below.refl _ _) 1), below_drewN' HEND.out.1.2.2.2.2.1 1⟩)
          | (rw [row5 HYR.out, row5 (w := w7.setRow (N + 4) _) ((setRow_other _ _ _ _ (by omega)).trans HYH.out)]
             go_wp2
             refine ret_cct (g := N + 3) (g2 := N + 4) rfl rfl rfl (t := 29) (t2 := 32) (fr := (0, 0)) (fr2 := (0, 0)) HEND.out.2.1 Try.underlying29 rfl (by kernel_rfl) HEND.out.2.2.1 Try.underlying32 rfl (by kernel_rfl) rfl ?_
             rw [HSO.out]
             first | exact ⟨_, _, _, _, rfl, HEND.out.2.2.2.1.below (below_drewN' (Below.refl _ _) 1) HEND.out.2.2.2.2.2.2, Nat.le_trans (by omega : N ≤ N + 5) HNL.out, HEND.out.2.2.2.2.2.2, HEND.out.2.2.2.2.1.below (below_drewN' (Below.refl _ _) 1), below_drewN' HEND.out.2.2.2.2.2.1 1⟩ | exact ⟨_, _, rfl, _, _, HEND.out.2.2.2.1.below (below_drewN' (Below.refl _ _) 1) HEND.out.2.2.2.2.2.2, Nat.le_trans (by omega : N ≤ N + 5) HNL.out, HEND.out.2.2.2.2.2.2, HEND.out.2.2.2.2.1.below (below_drewN' (Below.refl _ _) 1), below_drewN' HEND.out.2.2.2.2.2.1 1⟩)
  · have HSO : Hid (stepX 1 f x = (postX x f).1) := rfl
    have HOW : Hid ((w1.alloc (.cells #[] 5)).ownsRow w1.heap.size 5 1 (.slice (some ⟨w1.heap.size, 0, none⟩) 0 0) 0 []) := own_empty w1 5 1
    have R0 := Lib.hid (HRD.out.alloc HRDL.out (.cells #[] 5))
    obtain ⟨b0, b1⟩ := two_cells (old_alloc HXO.out (.cells #[] 5))
    go_upto_region 5 with (at_builtin; refine wpList_append_rdk (P := Try.prog) rfl _ _ 35 rfl w1.heap.size 5 i0 _ 1 1 Try.underlying35 hi0 hz0 hz1 hz2 hz3 (by omega) _ 0 [] rfl HOW.out A f.length c (cells f) rfl HAN.out (by rw [cells_length, Nat.mul_one]) R0.out (cells_one f) (by unfold maxLen; omega) (by omega) (by simp) ?_; intro v9 w2 hown2 hgrow2 _)
    have hb2 : Below w1.heap.size w1 w2 := ((Below.refl w1.heap.size w1).alloc (Nat.le_refl _) _).grown hgrow2 (by simp) fun g hg => (HOW.out.lt g hg).1
    have OF0 : Hid (w2.ownsRow w1.heap.size 5 1 v9 f.length (cells f)) := by show World.ownsRow _ _ _ _ _ _ _; simpa using hown2
    obtain ⟨A9, c9, rfl, -⟩ := ownk_form OF0.out
    have HB1S : Hid (N + 5 ≤ w1.heap.size) := HNS.out
    have HBS := HB1S
    have HX := Lib.hid (old_below HX.out hb2 (row_lt HX.out))
    have HXR := Lib.hid (old_below HXR.out hb2 (row_lt HXR.out))
    have HXO := Lib.hid (old_below HXO.out hb2 (row_lt HXO.out))
    have HYH := Lib.hid (old_below HYH.out hb2 (row_lt HYH.out))
    have HYR := Lib.hid (old_below HYR.out hb2 (row_lt HYR.out))
    have HF := Lib.hid (HF.out.below hb2)
    have HG := Lib.hid (HG.out.below hb2 HGL.out)
    have HGL := Lib.hid (Nat.le_trans HGL.out hb2.size)
    have HRD := Lib.hid (HRD.out.below hb2 HRDL.out)
    have HRDL := Lib.hid (Nat.le_trans HRDL.out hb2.size)
    have HB := Lib.hid (HB.out.trans (hb2.mono (by have := HB.out.size; have := HNS.out; omega)))
    have HNS : Hid (N + 5 ≤ _) := Nat.le_trans HNS.out hb2.size
    clear hb2
    clear f0 f1 b0 b1 hown2 hgrow2 HOW R0
    have OF := OF0
    clear OF0
    go_wp2_with (refine wpList_load_row rfl 29 _ rfl N rfl 29 #[.slice A0 n0 c0, .int .u16 p0, .int .u16 t0, .int .u16 d0, .int .u16 r0] (0, 0) _ HX.out Try.underlying29 rfl (by kernel_rfl) ?_)
    refine (rg_post HG.out HR.out HGL.out A9 c9 w1.heap.size w2.heap.size f (ownk_rd OF.out) (Nat.le_refl _) (own_none OF.out) (by omega)).mono ?_
    rintro e w3 ⟨v, rfl, hg, hb⟩
    have hH := Nat.le_refl w3.heap.size
    obtain ⟨A2, n2, c2, p2, t2, d2, r2, rfl⟩ := hg.form_
    have hbb := hb.alloc hb.size (.cells #[.slice A2 n2 c2, .int .u16 p2, .int .u16 t2, .int .u16 d2, .int .u16 r2] 29)
    have hn2 := (Below.refl w3.heap.size w3).alloc (Nat.le_refl _) (.cells #[.slice A2 n2 c2, .int .u16 p2, .int .u16 t2, .int .u16 d2, .int .u16 r2] 29)
    obtain ⟨lo2, hlo2⟩ : ∃ k, w2.heap.size = k := ⟨_, rfl⟩
    have HGN := Lib.hid (hg.below hn2 hH)
    have HZ := Lib.hid (heap_alloc_new w3 (.cells #[.slice A2 n2 c2, .int .u16 p2, .int .u16 t2, .int .u16 d2, .int .u16 r2] 29))
    have HPN : Hid (N + 4 < w3.heap.size) := row_lt (old_below HYR.out hb (row_lt HYR.out))
    have HGNL := Lib.hid (Nat.le_trans hH hn2.size)
    have HNL : Hid (N + 5 ≤ lo2) := by rw [← hlo2]; exact HNS.out
    rw [hlo2] at HGN
    have hOL : ∀ b, (Value.slice A9 f.length c9).ownBlock = some b → b < lo2 := fun b hb => by have := (OF.out.lt b hb).2; omega
    have HX := Lib.hid (old_below HX.out hbb (row_lt HX.out))
    have HXR := Lib.hid (old_below HXR.out hbb (row_lt HXR.out))
    have HXO := Lib.hid (old_below HXO.out hbb (row_lt HXO.out))
    have HYH := Lib.hid (old_below HYH.out hbb (row_lt HYH.out))
    have HYR := Lib.hid (old_below HYR.out hbb (row_lt HYR.out))
    have HF := Lib.hid (HF.out.below hbb)
    have OF := Lib.hid (ownk_below OF.out hbb (Nat.le_refl _))
    have HRD := Lib.hid (HRD.out.below hbb HRDL.out)
    have HRDL := Lib.hid (Nat.le_trans HRDL.out hbb.size)
    have HB := Lib.hid (HB.out.trans (hbb.mono (by have := HB.out.size; have := HNS.out; omega)))
    have HNS : Hid (N + 5 ≤ _) := Nat.le_trans HNS.out hbb.size
    clear hbb
    clear hg hb hH hn2
    go_upto_region 6 with (refine wpList_store_new rfl 29 _ _ rfl w3 #[.slice none 0 0, .int .u16 0, .int .u16 0, .int .u16 0, .int .u16 0] #[.slice A2 n2 c2, .int .u16 p2, .int .u16 t2, .int .u16 d2, .int .u16 r2] rfl rfl (by kernel_rfl) (rfl) (ring_ones _ _ _ _ _ _ _) ?_)
    generalize (w3.alloc (.cells #[.slice A2 n2 c2, .int .u16 p2, .int .u16 t2, .int .u16 d2, .int .u16 r2] 29)) = w4 at HGN HGNL HZ HX HXR HXO HYH HYR HF HRD HRDL HB HNS OF ⊢
    generalize w3.heap.size = P2 at *
    clear HG HGL
    go_wp2
    go_loopw [57] (fun tt wr => ∃ k : Nat, k ≤ f.length ∧ tt = .int .i64 (k : Int) ∧ Hid (wr.ownsRow w1.heap.size 5 1 (.slice A9 f.length c9) f.length (cells (incL f k))) ∧ Hid (w4.grownBy wr (Value.slice A9 f.length c9).ownBlock)) (fun tt _ => f.length - (intOf tt).toNat)
    case atStart => exact ⟨0, Nat.zero_le _, rfl, by rw [incL_zero]; exact OF, World.grownBy.refl _ _⟩
    case round =>
      obtain ⟨k, hk, rfl, HRW, HGR⟩ := hrel
      by_cases hks : k < f.length
      · obtain ⟨g, hA5, hg1, hg2, hcell⟩ := own_at HRW.out (incL_get f k hks)
        have hrow := HRW.out
        rw [hA5] at hrow
        have hfree : wr.frozen? ⟨g, k, none⟩ = false := hrow.frozenAt k
        have hst := hrow.stored k (.int .u8 ((f[k] + 1).toNat : Int))
        rw [incL_set f k hks] at hst
        obtain ⟨xx, hxx⟩ : ∃ x, f[k].toNat = x := ⟨_, rfl⟩
        have hxb : xx < 256 := by rw [← hxx]; exact f[k].toNat_lt
        have hinc : (((f[k] + 1).toNat : Nat) : Int) = IntKind.u8.wrap ((xx : Int) + 1) := by
          rw [IntKind.wrap_u8', UInt8.toNat_add, hxx]
          show ((_ : Nat) : Int) = _
          rw [show (1 : UInt8).toNat = 1 from rfl]
          omega
        rw [hinc] at hst
        rw [hxx] at hcell
        have HV9 := Lib.hid hst.1
        have HG9 : Hid (w4.grownBy (wr.setCell ⟨g, k, none⟩ (.int .u8 (IntKind.u8.wrap ((xx : Int) + 1)))) (Value.slice (some ⟨g, 0, none⟩) f.length c9).ownBlock) := by
          have h1 := HGR.out
          rw [hA5] at h1
          exact h1.trans (grown_set wr ⟨g, k, none⟩ _)
        rw [hA5]
        clear hst hrow hinc hxx hg1 hg2 HRW HGR OF HGN HGNL HZ HX HXR HXO HYH HYR HF HRD HRDL HB HNS hA5
        go_wp2
        go_roundw
        case rel => exact ⟨k + 1, by omega, by go_num, HV9, HG9⟩
        case measure => simp [intOf]; omega
      · have hkn : ¬ (k : Int) < (f.length : Int) := by omega
        clear hk hks HRW
        have hbf : ∀ b, (Value.slice A9 f.length c9).ownBlock = some b → w1.heap.size ≤ b ∧ b < w4.heap.size := fun b hb => OF.out.lt b hb
        have HX := Lib.hid (box_grown HX.out OF.out HGR.out (by decide))
        have HXR := Lib.hid (box_grown HXR.out OF.out HGR.out (by decide))
        have HXO := Lib.hid (box_grown HXO.out OF.out HGR.out (by decide))
        have HYH := Lib.hid (box_grown HYH.out OF.out HGR.out (by decide))
        have HYR := Lib.hid (box_grown HYR.out OF.out HGR.out (by decide))
        have HZ := Lib.hid (box_grown HZ.out OF.out HGR.out (by decide))
        have HF := Lib.hid (HF.out.grown OF.out HGR.out)
        have HGN := Lib.hid (HGN.out.stay (Stay.grown2 HGR.out HGNL.out (fun b hb => .inl (hOL b hb))))
        have HGNL := Lib.hid (Nat.le_trans HGNL.out HGR.out.size)
        have HRD := Lib.hid (HRD.out.stay (Stay.grown2 HGR.out HRDL.out (fun b hb => .inr (by have := hbf b hb; have := HRDN.out; have := HB1S.out; omega))))
        have HRDL := Lib.hid (Nat.le_trans HRDL.out HGR.out.size)
        have HB : Hid (Below N w wr) := HB.out.trans ⟨HGR.out.os, HGR.out.tape, HGR.out.output, HGR.out.size, fun b hb => HGR.out.block b (by have := HB.out.size; omega) (fun e => by have := hbf b e.symm; have := HBS.out; omega)⟩
        have HNS : Hid (N + 5 ≤ wr.heap.size) := Nat.le_trans HNS.out HGR.out.size
        clear HGR OF hbf
        generalize wr = w5 at *
        obtain ⟨f0, f1⟩ := two_cells HXO.out
        have hcv : (convert 35 9 (.slice A f.length c)).run Try.prog w5 = .ok (.string ⟨f.toArray⟩) w5 := run_text (P := Try.prog) w5 35 9 5 (l := f) c Try.underlying35 Try.underlying5 Try.underlying9 (HRD.out)
        go_wp2_with (refine wpList_load_row rfl 32 _ rfl (N + 1) rfl 32 #[.int .i64 m1, .slice E1 i1 x1, .slice F1 j1 y1, .slice G1 k1 z1, .int .i64 o1] (0, 0) _ HXR.out Try.underlying32 rfl (by kernel_rfl) ?_)
        refine (rf_post f w5 HF.out HR.out (by omega)).mono ?_
        rintro e w6 ⟨v, rfl, hf, hb⟩
        obtain ⟨m3, E3, i3, x3, F3, j3, y3, G3, k3, z3, o3, rfl⟩ := hf.form_
        have hbb := hb.alloc hb.size (.cells #[.int .i64 m3, .slice E3 i3 x3, .slice F3 j3 y3, .slice G3 k3 z3, .int .i64 o3] 32)
        have HFN := Lib.hid (hf.below ((Below.refl w6.heap.size w6).alloc (Nat.le_refl _) (.cells #[.int .i64 m3, .slice E3 i3 x3, .slice F3 j3 y3, .slice G3 k3 z3, .int .i64 o3] 32)))
        have HU := Lib.hid (heap_alloc_new w6 (.cells #[.int .i64 m3, .slice E3 i3 x3, .slice F3 j3 y3, .slice G3 k3 z3, .int .i64 o3] 32))
        have HPM : Hid (N + 4 < w6.heap.size) := row_lt (old_below HYR.out hb (row_lt HYR.out))
        have HYH := Lib.hid (old_below HYH.out hbb (row_lt HYH.out))
        have HYR := Lib.hid (old_below HYR.out hbb (row_lt HYR.out))
        have HZ := Lib.hid (old_below HZ.out hbb (row_lt HZ.out))
        have HGN := Lib.hid (HGN.out.below hbb HGNL.out)
        have HGNL := Lib.hid (Nat.le_trans HGNL.out hbb.size)
        have HB := Lib.hid (HB.out.trans (hbb.mono (by have := HB.out.size; have := HNS.out; omega)))
        have HNS : Hid (N + 5 ≤ _) := Nat.le_trans HNS.out hbb.size
        clear hbb
        clear hf hb hcv f0 f1
        go_upto_region 12 with (refine wpList_store_new rfl 32 _ _ rfl w6 #[.int .i64 0, .slice none 0 0, .slice none 0 0, .slice none 0 0, .int .i64 0] #[.int .i64 m3, .slice E3 i3 x3, .slice F3 j3 y3, .slice G3 k3 z3, .int .i64 o3] rfl rfl (by kernel_rfl) (rfl) (rf_ones _ _ _ _ _ _ _ _ _ _ _) ?_)
        generalize (w6.alloc (.cells #[.int .i64 m3, .slice E3 i3 x3, .slice F3 j3 y3, .slice G3 k3 z3, .int .i64 o3] 32)) = w7 at HFN HU HYH HYR HZ HGN HGNL HB HNS  ⊢
        generalize w6.heap.size = P4 at *
        have HGNW : Hid (N + 5 ≤ lo2 ∧ _ ≤ w7.heap.size) := ⟨HNL.out, HGNL.out⟩
        have HEND := Lib.hid (step_end HGN.out HGNW.out HFN.out HYH.out HYR.out HB.out)
        obtain ⟨a0, a1, a2, a3, a4⟩ := five_cells HZ.out
        obtain ⟨b0, b1, b2, b3, b4⟩ := five_cells HU.out
        obtain ⟨q0, q1, q2, q3, q4⟩ := five_cells HYH.out
        obtain ⟨s0, s1, s2, s3, s4⟩ := five_cells HYR.out
        have g0 := frozen_of_row w7 (N + 3) 0 _ _ HYH.out
        have l0 := frozen_of_row w7 (N + 4) 0 _ _ HYR.out
        have g1 := frozen_of_row w7 (N + 3) 1 _ _ HYH.out
        have l1 := frozen_of_row w7 (N + 4) 1 _ _ HYR.out
        have g2 := frozen_of_row w7 (N + 3) 2 _ _ HYH.out
        have l2 := frozen_of_row w7 (N + 4) 2 _ _ HYR.out
        have g3 := frozen_of_row w7 (N + 3) 3 _ _ HYH.out
        have l3 := frozen_of_row w7 (N + 4) 3 _ _ HYR.out
        have g4 := frozen_of_row w7 (N + 3) 4 _ _ HYH.out
        have l4 := frozen_of_row w7 (N + 4) 4 _ _ HYR.out
        have ne1 : ¬ N + 1 + 1 + 1 = P2 := by have := HPN.out; omega
        have ne2 : ¬ N + 1 + 1 + 1 = P4 := by have := HPM.out; omega
        have ne3 : ¬ N + 1 + 1 + 1 + 1 = P2 := by have := HPN.out; omega
        have ne4 : ¬ N + 1 + 1 + 1 + 1 = P4 := by have := HPM.out; omega
        have ne5 : ¬ P2 = N + 1 + 1 + 1 := by have := HPN.out; omega
        have ne6 : ¬ P4 = N + 1 + 1 + 1 := by have := HPM.out; omega
        have ne7 : ¬ P2 = N + 1 + 1 + 1 + 1 := by have := HPN.out; omega
        have ne8 : ¬ P4 = N + 1 + 1 + 1 + 1 := by have := HPM.out; omega
        skip
        go_region
        all_goals first
          | (rw [row5 HYH.out, row5 (w := w7.setRow (N + 3) _) ((setRow_other _ _ _ _ (by omega)).trans HYR.out)]
             go_wp2
             refine ret_cct (g := N + 3) (g2 := N + 4) rfl rfl rfl (t := 29) (t2 := 32) (fr := (0, 0)) (fr2 := (0, 0)) HEND.out.1.1 Try.underlying29 rfl (by kernel_rfl) HEND.out.1.2.1 Try.underlying32 rfl (by kernel_rfl) rfl ?_
             rw [HSO.out]
             first | exact ⟨_, _, _, _, rfl, HEND.out.1.2.2.1.below (below_drewN' (Below.refl _ _) 1) HEND.out.1.2.2.2.2.2, Nat.le_trans (by omega : N ≤ N + 5) HNL.out, HEND.out.1.2.2.2.2.2, HEND.out.1.2.2.2.1.below (below_drewN' (Below.refl _ _) 1), below_drewN' HEND.out.1.2.2.2.2.1 1⟩ | exact ⟨_, _, rfl, _, _, HEND.out.1.2.2.1.below (below_drewN' (Below.refl _ _) 1) HEND.out.1.2.2.2.2.2, Nat.le_trans (by omega : N ≤ N + 5) HNL.out, HEND.out.1.2.2.2.2.2, HEND.out.1.2.2.2.1.below (below_drewN' (Below.refl _ _) 1), below_drewN' HEND.out.1.2.2.2.2.1 1⟩)
          | (rw [row5 HYR.out, row5 (w := w7.setRow (N + 4) _) ((setRow_other _ _ _ _ (by omega)).trans HYH.out)]
             go_wp2
             refine ret_cct (g := N + 3) (g2 := N + 4) rfl rfl rfl (t := 29) (t2 := 32) (fr := (0, 0)) (fr2 := (0, 0)) HEND.out.2.1 Try.underlying29 rfl (by kernel_rfl) HEND.out.2.2.1 Try.underlying32 rfl (by kernel_rfl) rfl ?_
             rw [HSO.out]
             first | exact ⟨_, _, _, _, rfl, HEND.out.2.2.2.1.below (below_drewN' (Below.refl _ _) 1) HEND.out.2.2.2.2.2.2, Nat.le_trans (by omega : N ≤ N + 5) HNL.out, HEND.out.2.2.2.2.2.2, HEND.out.2.2.2.2.1.below (below_drewN' (Below.refl _ _) 1), below_drewN' HEND.out.2.2.2.2.2.1 1⟩ | exact ⟨_, _, rfl, _, _, HEND.out.2.2.2.1.below (below_drewN' (Below.refl _ _) 1) HEND.out.2.2.2.2.2.2, Nat.le_trans (by omega : N ≤ N + 5) HNL.out, HEND.out.2.2.2.2.2.2, HEND.out.2.2.2.2.1.below (below_drewN' (Below.refl _ _) 1), below_drewN' HEND.out.2.2.2.2.2.1 1⟩)
  · obtain ⟨x', tf, er, hte⟩ : ∃ x' tf er, takeX x = (x', tf, er) := ⟨_, _, _, rfl⟩
    have hts := take_small HR.out
    have hrt := rg_take HG.out HR.out HGL.out
    have hft := fun (w : World) (v : Value) (h : Rf x w v) => rf_take w h HR.out
    have HSO : Hid (stepX 2 f x = x') := by show (takeX x).1 = _; rw [hte]
    rw [hte] at hts hrt hft
    have HRT := Lib.hid hrt
    have HFT := Lib.hid hft
    clear hte hrt hft
    go_wp2_with (refine wpList_load_row rfl 29 _ rfl N rfl 29 #[.slice A0 n0 c0, .int .u16 p0, .int .u16 t0, .int .u16 d0, .int .u16 r0] (0, 0) _ HX.out Try.underlying29 rfl (by kernel_rfl) ?_)
    refine (HRT.out).mono ?_
    rintro e w2 ⟨v, u, H, rfl, hg, hH, hu, hb⟩
    obtain ⟨A2, n2, c2, p2, t2, d2, r2, rfl⟩ := hg.form_
    have hbb := hb.alloc hb.size (.cells #[.slice A2 n2 c2, .int .u16 p2, .int .u16 t2, .int .u16 d2, .int .u16 r2] 29)
    have hn2 := (Below.refl w2.heap.size w2).alloc (Nat.le_refl _) (.cells #[.slice A2 n2 c2, .int .u16 p2, .int .u16 t2, .int .u16 d2, .int .u16 r2] 29)
    obtain ⟨lo2, hlo2⟩ : ∃ k, w1.heap.size = k := ⟨_, rfl⟩
    have HGN := Lib.hid (hg.below hn2 hH)
    have HZ := Lib.hid (heap_alloc_new w2 (.cells #[.slice A2 n2 c2, .int .u16 p2, .int .u16 t2, .int .u16 d2, .int .u16 r2] 29))
    have HPN : Hid (N + 4 < w2.heap.size) := row_lt (old_below HYR.out hb (row_lt HYR.out))
    have HGNL := Lib.hid (Nat.le_trans hH hn2.size)
    have HNL : Hid (N + 5 ≤ lo2) := by rw [← hlo2]; exact HNS.out
    rw [hlo2] at HGN
    obtain ⟨A9, c9, rfl, -⟩ := ownk_form hu
    have OF := Lib.hid (ownk_below hu hn2 (Nat.le_refl _))
    have HBS : Hid (N + 5 ≤ H) := by have := hg.le; have := HNS.out; show _ ≤ _; omega
    clear hu
    have HX := Lib.hid (old_below HX.out hbb (row_lt HX.out))
    have HXR := Lib.hid (old_below HXR.out hbb (row_lt HXR.out))
    have HXO := Lib.hid (old_below HXO.out hbb (row_lt HXO.out))
    have HYH := Lib.hid (old_below HYH.out hbb (row_lt HYH.out))
    have HYR := Lib.hid (old_below HYR.out hbb (row_lt HYR.out))
    have HF := Lib.hid (HF.out.below hbb)
    have HRD := Lib.hid (HRD.out.below hbb HRDL.out)
    have HRDL := Lib.hid (Nat.le_trans HRDL.out hbb.size)
    have HB := Lib.hid (HB.out.trans (hbb.mono (by have := HB.out.size; have := HNS.out; omega)))
    have HNS : Hid (N + 5 ≤ _) := Nat.le_trans HNS.out hbb.size
    clear hbb
    clear hg hb hH hn2
    go_upto_region 15 with (refine wpList_store_new rfl 29 _ _ rfl w2 #[.slice none 0 0, .int .u16 0, .int .u16 0, .int .u16 0, .int .u16 0] #[.slice A2 n2 c2, .int .u16 p2, .int .u16 t2, .int .u16 d2, .int .u16 r2] rfl rfl (by kernel_rfl) (rfl) (ring_ones _ _ _ _ _ _ _) ?_)
    generalize (w2.alloc (.cells #[.slice A2 n2 c2, .int .u16 p2, .int .u16 t2, .int .u16 d2, .int .u16 r2] 29)) = w3 at HGN HGNL HZ HX HXR HXO HYH HYR HF HRD HRDL HB HNS OF ⊢
    generalize w2.heap.size = P2 at *
    clear HG HGL HRT f0 f1
    go_wp2_with (refine wpList_load_row rfl 32 _ rfl (N + 1) rfl 32 #[.int .i64 m1, .slice E1 i1 x1, .slice F1 j1 y1, .slice G1 k1 z1, .int .i64 o1] (0, 0) _ HXR.out Try.underlying32 rfl (by kernel_rfl) ?_)
    refine (HFT.out w3 _ HF.out).mono ?_
    rintro e w4 ⟨v, rfl, hf, hb⟩
    obtain ⟨m3, E3, i3, x3, F3, j3, y3, G3, k3, z3, o3, rfl⟩ := hf.form_
    have hbb := hb.alloc hb.size (.cells #[.int .i64 m3, .slice E3 i3 x3, .slice F3 j3 y3, .slice G3 k3 z3, .int .i64 o3] 32)
    have HFN := Lib.hid (hf.below ((Below.refl w4.heap.size w4).alloc (Nat.le_refl _) (.cells #[.int .i64 m3, .slice E3 i3 x3, .slice F3 j3 y3, .slice G3 k3 z3, .int .i64 o3] 32)))
    have HU := Lib.hid (heap_alloc_new w4 (.cells #[.int .i64 m3, .slice E3 i3 x3, .slice F3 j3 y3, .slice G3 k3 z3, .int .i64 o3] 32))
    have HPM : Hid (N + 4 < w4.heap.size) := row_lt (old_below HYR.out hb (row_lt HYR.out))
    have HYH := Lib.hid (old_below HYH.out hbb (row_lt HYH.out))
    have HYR := Lib.hid (old_below HYR.out hbb (row_lt HYR.out))
    have HZ := Lib.hid (old_below HZ.out hbb (row_lt HZ.out))
    have HX := Lib.hid (old_below HX.out hbb (row_lt HX.out))
    have HXR := Lib.hid (old_below HXR.out hbb (row_lt HXR.out))
    have HXO := Lib.hid (old_below HXO.out hbb (row_lt HXO.out))
    have HGN := Lib.hid (HGN.out.below hbb HGNL.out)
    have HGNL := Lib.hid (Nat.le_trans HGNL.out hbb.size)
    have OF := Lib.hid (ownk_below OF.out hbb (Nat.le_refl _))
    have HB := Lib.hid (HB.out.trans (hbb.mono (by have := HB.out.size; have := HNS.out; omega)))
    have HNS : Hid (N + 5 ≤ _) := Nat.le_trans HNS.out hbb.size
    clear hbb
    clear hf hb
    go_upto_region 16 with (refine wpList_store_new rfl 32 _ _ rfl w4 #[.int .i64 0, .slice none 0 0, .slice none 0 0, .slice none 0 0, .int .i64 0] #[.int .i64 m3, .slice E3 i3 x3, .slice F3 j3 y3, .slice G3 k3 z3, .int .i64 o3] rfl rfl (by kernel_rfl) (rfl) (rf_ones _ _ _ _ _ _ _ _ _ _ _) ?_)
    generalize (w4.alloc (.cells #[.int .i64 m3, .slice E3 i3 x3, .slice F3 j3 y3, .slice G3 k3 z3, .int .i64 o3] 32)) = w5 at HFN HU HYH HYR HZ HX HXR HXO HGN HGNL HB HNS OF ⊢
    generalize w4.heap.size = P4 at *
    have HGNW : Hid (N + 5 ≤ lo2 ∧ _ ≤ w5.heap.size) := ⟨HNL.out, HGNL.out⟩
    have hcv : (convert 35 9 (.slice A9 tf.length c9)).run Try.prog w5 = .ok (.string ⟨tf.toArray⟩) w5 := run_text (P := Try.prog) w5 35 9 5 (l := tf) c9 Try.underlying35 Try.underlying5 Try.underlying9 (ownk_rd OF.out)
    clear HRD HRDL HF
    go_upto_region 17 with (fail)
    clear hcv
    go_wp2
    go_loopw [105] (fun tt wr => ∃ k : Nat, k ≤ tf.length ∧ tt = .int .i64 (k : Int) ∧ Hid (wr.ownsRow H 5 1 (.slice A9 tf.length c9) tf.length (cells (incL tf k))) ∧ Hid (w5.grownBy wr (Value.slice A9 tf.length c9).ownBlock)) (fun tt _ => tf.length - (intOf tt).toNat)
    case atStart => exact ⟨0, Nat.zero_le _, rfl, by rw [incL_zero]; exact OF, World.grownBy.refl _ _⟩
    case round =>
      obtain ⟨k, hk, rfl, HRW, HGR⟩ := hrel
      by_cases hks : k < tf.length
      · obtain ⟨g, hA5, hg1, hg2, hcell⟩ := own_at HRW.out (incL_get tf k hks)
        have hrow := HRW.out
        rw [hA5] at hrow
        have hfree : wr.frozen? ⟨g, k, none⟩ = false := hrow.frozenAt k
        have hst := hrow.stored k (.int .u8 ((tf[k] + 1).toNat : Int))
        rw [incL_set tf k hks] at hst
        obtain ⟨xx, hxx⟩ : ∃ x, tf[k].toNat = x := ⟨_, rfl⟩
        have hxb : xx < 256 := by rw [← hxx]; exact tf[k].toNat_lt
        have hinc : (((tf[k] + 1).toNat : Nat) : Int) = IntKind.u8.wrap ((xx : Int) + 1) := by
          rw [IntKind.wrap_u8', UInt8.toNat_add, hxx]
          show ((_ : Nat) : Int) = _
          rw [show (1 : UInt8).toNat = 1 from rfl]
          omega
        rw [hinc] at hst
        rw [hxx] at hcell
        have HV9 := Lib.hid hst.1
        have HG9 : Hid (w5.grownBy (wr.setCell ⟨g, k, none⟩ (.int .u8 (IntKind.u8.wrap ((xx : Int) + 1)))) (Value.slice (some ⟨g, 0, none⟩) tf.length c9).ownBlock) := by
          have h1 := HGR.out
          rw [hA5] at h1
          exact h1.trans (grown_set wr ⟨g, k, none⟩ _)
        rw [hA5]
        clear hst hrow hinc hxx hg1 hg2 HRW HGR OF HGN HGNL HZ HX HXR HXO HYH HYR HFN HU HB HNS HGNW hA5
        go_wp2
        go_roundw
        case rel => exact ⟨k + 1, by omega, by go_num, HV9, HG9⟩
        case measure => simp [intOf]; omega
      · have hkn : ¬ (k : Int) < (tf.length : Int) := by omega
        clear hk hks HRW
        have hbf : ∀ b, (Value.slice A9 tf.length c9).ownBlock = some b → H ≤ b ∧ b < w5.heap.size := fun b hb => OF.out.lt b hb
        have HYH := Lib.hid (box_grown HYH.out OF.out HGR.out (by decide))
        have HYR := Lib.hid (box_grown HYR.out OF.out HGR.out (by decide))
        have HZ := Lib.hid (box_grown HZ.out OF.out HGR.out (by decide))
        have HU := Lib.hid (box_grown HU.out OF.out HGR.out (by decide))
        have HFN := Lib.hid (HFN.out.grown OF.out HGR.out)
        have HGN := Lib.hid (HGN.out.stay (Stay.grown2 HGR.out HGNL.out (fun b hb => .inr (by have := hbf b hb; omega))))
        have HGNL := Lib.hid (Nat.le_trans HGNL.out HGR.out.size)
        have HB : Hid (Below N w wr) := HB.out.trans ⟨HGR.out.os, HGR.out.tape, HGR.out.output, HGR.out.size, fun b hb => HGR.out.block b (by have := HB.out.size; omega) (fun e => by have := hbf b e.symm; have := HBS.out; omega)⟩
        have HNS : Hid (N + 5 ≤ wr.heap.size) := Nat.le_trans HNS.out HGR.out.size
        have HGNW : Hid (N + 5 ≤ lo2 ∧ _ ≤ wr.heap.size) := ⟨HNL.out, HGNL.out⟩
        clear HGR OF hbf
        generalize wr = w7 at *
        have HEND := Lib.hid (step_end HGN.out HGNW.out HFN.out HYH.out HYR.out HB.out)
        obtain ⟨a0, a1, a2, a3, a4⟩ := five_cells HZ.out
        obtain ⟨b0, b1, b2, b3, b4⟩ := five_cells HU.out
        obtain ⟨q0, q1, q2, q3, q4⟩ := five_cells HYH.out
        obtain ⟨s0, s1, s2, s3, s4⟩ := five_cells HYR.out
        have g0 := frozen_of_row w7 (N + 3) 0 _ _ HYH.out
        have l0 := frozen_of_row w7 (N + 4) 0 _ _ HYR.out
        have g1 := frozen_of_row w7 (N + 3) 1 _ _ HYH.out
        have l1 := frozen_of_row w7 (N + 4) 1 _ _ HYR.out
        have g2 := frozen_of_row w7 (N + 3) 2 _ _ HYH.out
        have l2 := frozen_of_row w7 (N + 4) 2 _ _ HYR.out
        have g3 := frozen_of_row w7 (N + 3) 3 _ _ HYH.out
        have l3 := frozen_of_row w7 (N + 4) 3 _ _ HYR.out
        have g4 := frozen_of_row w7 (N + 3) 4 _ _ HYH.out
        have l4 := frozen_of_row w7 (N + 4) 4 _ _ HYR.out
        have ne1 : ¬ N + 1 + 1 + 1 = P2 := by have := HPN.out; omega
        have ne2 : ¬ N + 1 + 1 + 1 = P4 := by have := HPM.out; omega
        have ne3 : ¬ N + 1 + 1 + 1 + 1 = P2 := by have := HPN.out; omega
        have ne4 : ¬ N + 1 + 1 + 1 + 1 = P4 := by have := HPM.out; omega
        have ne5 : ¬ P2 = N + 1 + 1 + 1 := by have := HPN.out; omega
        have ne6 : ¬ P4 = N + 1 + 1 + 1 := by have := HPM.out; omega
        have ne7 : ¬ P2 = N + 1 + 1 + 1 + 1 := by have := HPN.out; omega
        have ne8 : ¬ P4 = N + 1 + 1 + 1 + 1 := by have := HPM.out; omega
        go_upto_region 22 with (fail)
        go_region
        all_goals first
          | (rw [row5 HYH.out, row5 (w := w7.setRow (N + 3) _) ((setRow_other _ _ _ _ (by omega)).trans HYR.out)]
             go_wp2
             refine ret_cct (g := N + 3) (g2 := N + 4) rfl rfl rfl (t := 29) (t2 := 32) (fr := (0, 0)) (fr2 := (0, 0)) HEND.out.1.1 Try.underlying29 rfl (by kernel_rfl) HEND.out.1.2.1 Try.underlying32 rfl (by kernel_rfl) rfl ?_
             rw [HSO.out]
             first | exact ⟨_, _, _, _, rfl, HEND.out.1.2.2.1.below (below_drewN' (Below.refl _ _) 1) HEND.out.1.2.2.2.2.2, Nat.le_trans (by omega : N ≤ N + 5) HNL.out, HEND.out.1.2.2.2.2.2, HEND.out.1.2.2.2.1.below (below_drewN' (Below.refl _ _) 1), below_drewN' HEND.out.1.2.2.2.2.1 1⟩ | exact ⟨_, _, rfl, _, _, HEND.out.1.2.2.1.below (below_drewN' (Below.refl _ _) 1) HEND.out.1.2.2.2.2.2, Nat.le_trans (by omega : N ≤ N + 5) HNL.out, HEND.out.1.2.2.2.2.2, HEND.out.1.2.2.2.1.below (below_drewN' (Below.refl _ _) 1), below_drewN' HEND.out.1.2.2.2.2.1 1⟩)
          | (rw [row5 HYR.out, row5 (w := w7.setRow (N + 4) _) ((setRow_other _ _ _ _ (by omega)).trans HYH.out)]
             go_wp2
             refine ret_cct (g := N + 3) (g2 := N + 4) rfl rfl rfl (t := 29) (t2 := 32) (fr := (0, 0)) (fr2 := (0, 0)) HEND.out.2.1 Try.underlying29 rfl (by kernel_rfl) HEND.out.2.2.1 Try.underlying32 rfl (by kernel_rfl) rfl ?_
             rw [HSO.out]
             first | exact ⟨_, _, _, _, rfl, HEND.out.2.2.2.1.below (below_drewN' (Below.refl _ _) 1) HEND.out.2.2.2.2.2.2, Nat.le_trans (by omega : N ≤ N + 5) HNL.out, HEND.out.2.2.2.2.2.2, HEND.out.2.2.2.2.1.below (below_drewN' (Below.refl _ _) 1), below_drewN' HEND.out.2.2.2.2.2.1 1⟩ | exact ⟨_, _, rfl, _, _, HEND.out.2.2.2.1.below (below_drewN' (Below.refl _ _) 1) HEND.out.2.2.2.2.2.2, Nat.le_trans (by omega : N ≤ N + 5) HNL.out, HEND.out.2.2.2.2.2.2, HEND.out.2.2.2.2.1.below (below_drewN' (Below.refl _ _) 1), below_drewN' HEND.out.2.2.2.2.2.1 1⟩)
  · have HSO : Hid (stepX 3 f x = (finX x).1) := rfl
    go_wp2_with (refine wpList_load_row rfl 29 _ rfl N rfl 29 #[.slice A0 n0 c0, .int .u16 p0, .int .u16 t0, .int .u16 d0, .int .u16 r0] (0, 0) _ HX.out Try.underlying29 rfl (by kernel_rfl) ?_)
    refine (rg_fin HG.out HR.out HGL.out).mono ?_
    rintro e w2 ⟨v, rfl, hg, hb⟩
    have hH := Nat.le_refl w2.heap.size
    obtain ⟨A2, n2, c2, p2, t2, d2, r2, rfl⟩ := hg.form_
    have hbb := hb.alloc hb.size (.cells #[.slice A2 n2 c2, .int .u16 p2, .int .u16 t2, .int .u16 d2, .int .u16 r2] 29)
    have hn2 := (Below.refl w2.heap.size w2).alloc (Nat.le_refl _) (.cells #[.slice A2 n2 c2, .int .u16 p2, .int .u16 t2, .int .u16 d2, .int .u16 r2] 29)
    obtain ⟨lo2, hlo2⟩ : ∃ k, w1.heap.size = k := ⟨_, rfl⟩
    have HGN := Lib.hid (hg.below hn2 hH)
    have HZ := Lib.hid (heap_alloc_new w2 (.cells #[.slice A2 n2 c2, .int .u16 p2, .int .u16 t2, .int .u16 d2, .int .u16 r2] 29))
    have HPN : Hid (N + 4 < w2.heap.size) := row_lt (old_below HYR.out hb (row_lt HYR.out))
    have HGNL := Lib.hid (Nat.le_trans hH hn2.size)
    have HNL : Hid (N + 5 ≤ lo2) := by rw [← hlo2]; exact HNS.out
    rw [hlo2] at HGN
    have HX := Lib.hid (old_below HX.out hbb (row_lt HX.out))
    have HXR := Lib.hid (old_below HXR.out hbb (row_lt HXR.out))
    have HXO := Lib.hid (old_below HXO.out hbb (row_lt HXO.out))
    have HYH := Lib.hid (old_below HYH.out hbb (row_lt HYH.out))
    have HYR := Lib.hid (old_below HYR.out hbb (row_lt HYR.out))
    have HF := Lib.hid (HF.out.below hbb)
    have HRD := Lib.hid (HRD.out.below hbb HRDL.out)
    have HRDL := Lib.hid (Nat.le_trans HRDL.out hbb.size)
    have HB := Lib.hid (HB.out.trans (hbb.mono (by have := HB.out.size; have := HNS.out; omega)))
    have HNS : Hid (N + 5 ≤ _) := Nat.le_trans HNS.out hbb.size
    clear hbb
    clear hg hb hH hn2
    go_upto_region 25 with (refine wpList_store_new rfl 29 _ _ rfl w2 #[.slice none 0 0, .int .u16 0, .int .u16 0, .int .u16 0, .int .u16 0] #[.slice A2 n2 c2, .int .u16 p2, .int .u16 t2, .int .u16 d2, .int .u16 r2] rfl rfl (by kernel_rfl) (rfl) (ring_ones _ _ _ _ _ _ _) ?_)
    generalize (w2.alloc (.cells #[.slice A2 n2 c2, .int .u16 p2, .int .u16 t2, .int .u16 d2, .int .u16 r2] 29)) = w3 at HGN HGNL HZ HX HXR HXO HYH HYR HF HRD HRDL HB HNS  ⊢
    generalize w2.heap.size = P2 at *
    clear HG HGL f0 f1
    go_wp2_with (refine wpList_load_row rfl 32 _ rfl (N + 1) rfl 32 #[.int .i64 m1, .slice E1 i1 x1, .slice F1 j1 y1, .slice G1 k1 z1, .int .i64 o1] (0, 0) _ HXR.out Try.underlying32 rfl (by kernel_rfl) ?_)
    refine (rf_fin w3 HF.out HR.out).mono ?_
    rintro e w4 ⟨v, rfl, hf, hb⟩
    obtain ⟨m3, E3, i3, x3, F3, j3, y3, G3, k3, z3, o3, rfl⟩ := hf.form_
    have hbb := hb.alloc hb.size (.cells #[.int .i64 m3, .slice E3 i3 x3, .slice F3 j3 y3, .slice G3 k3 z3, .int .i64 o3] 32)
    have HFN := Lib.hid (hf.below ((Below.refl w4.heap.size w4).alloc (Nat.le_refl _) (.cells #[.int .i64 m3, .slice E3 i3 x3, .slice F3 j3 y3, .slice G3 k3 z3, .int .i64 o3] 32)))
    have HU := Lib.hid (heap_alloc_new w4 (.cells #[.int .i64 m3, .slice E3 i3 x3, .slice F3 j3 y3, .slice G3 k3 z3, .int .i64 o3] 32))
    have HPM : Hid (N + 4 < w4.heap.size) := row_lt (old_below HYR.out hb (row_lt HYR.out))
    have HYH := Lib.hid (old_below HYH.out hbb (row_lt HYH.out))
    have HYR := Lib.hid (old_below HYR.out hbb (row_lt HYR.out))
    have HZ := Lib.hid (old_below HZ.out hbb (row_lt HZ.out))
    have HGN := Lib.hid (HGN.out.below hbb HGNL.out)
    have HGNL := Lib.hid (Nat.le_trans HGNL.out hbb.size)
    have HB := Lib.hid (HB.out.trans (hbb.mono (by have := HB.out.size; have := HNS.out; omega)))
    have HNS : Hid (N + 5 ≤ _) := Nat.le_trans HNS.out hbb.size
    clear hbb
    clear hf hb
    go_upto_region 26 with (refine wpList_store_new rfl 32 _ _ rfl w4 #[.int .i64 0, .slice none 0 0, .slice none 0 0, .slice none 0 0, .int .i64 0] #[.int .i64 m3, .slice E3 i3 x3, .slice F3 j3 y3, .slice G3 k3 z3, .int .i64 o3] rfl rfl (by kernel_rfl) (rfl) (rf_ones _ _ _ _ _ _ _ _ _ _ _) ?_)
    generalize (w4.alloc (.cells #[.int .i64 m3, .slice E3 i3 x3, .slice F3 j3 y3, .slice G3 k3 z3, .int .i64 o3] 32)) = w5 at HFN HU HYH HYR HZ HGN HGNL HB HNS  ⊢
    generalize w4.heap.size = P4 at *
    have HGNW : Hid (N + 5 ≤ lo2 ∧ _ ≤ w5.heap.size) := ⟨HNL.out, HGNL.out⟩
    have HEND := Lib.hid (step_end HGN.out HGNW.out HFN.out HYH.out HYR.out HB.out)
    obtain ⟨a0, a1, a2, a3, a4⟩ := five_cells HZ.out
    obtain ⟨b0, b1, b2, b3, b4⟩ := five_cells HU.out
    obtain ⟨q0, q1, q2, q3, q4⟩ := five_cells HYH.out
    obtain ⟨s0, s1, s2, s3, s4⟩ := five_cells HYR.out
    have g0 := frozen_of_row w5 (N + 3) 0 _ _ HYH.out
    have l0 := frozen_of_row w5 (N + 4) 0 _ _ HYR.out
    have g1 := frozen_of_row w5 (N + 3) 1 _ _ HYH.out
    have l1 := frozen_of_row w5 (N + 4) 1 _ _ HYR.out
    have g2 := frozen_of_row w5 (N + 3) 2 _ _ HYH.out
    have l2 := frozen_of_row w5 (N + 4) 2 _ _ HYR.out
    have g3 := frozen_of_row w5 (N + 3) 3 _ _ HYH.out
    have l3 := frozen_of_row w5 (N + 4) 3 _ _ HYR.out
    have g4 := frozen_of_row w5 (N + 3) 4 _ _ HYH.out
    have l4 := frozen_of_row w5 (N + 4) 4 _ _ HYR.out
    have ne1 : ¬ N + 1 + 1 + 1 = P2 := by have := HPN.out; omega
    have ne2 : ¬ N + 1 + 1 + 1 = P4 := by have := HPM.out; omega
    have ne3 : ¬ N + 1 + 1 + 1 + 1 = P2 := by have := HPN.out; omega
    have ne4 : ¬ N + 1 + 1 + 1 + 1 = P4 := by have := HPM.out; omega
    have ne5 : ¬ P2 = N + 1 + 1 + 1 := by have := HPN.out; omega
    have ne6 : ¬ P4 = N + 1 + 1 + 1 := by have := HPM.out; omega
    have ne7 : ¬ P2 = N + 1 + 1 + 1 + 1 := by have := HPN.out; omega
    have ne8 : ¬ P4 = N + 1 + 1 + 1 + 1 := by have := HPM.out; omega
    skip
    go_region
    all_goals first
      | (rw [row5 HYH.out, row5 (w := w5.setRow (N + 3) _) ((setRow_other _ _ _ _ (by omega)).trans HYR.out)]
         go_wp2
         refine ret_cct (g := N + 3) (g2 := N + 4) rfl rfl rfl (t := 29) (t2 := 32) (fr := (0, 0)) (fr2 := (0, 0)) HEND.out.1.1 Try.underlying29 rfl (by kernel_rfl) HEND.out.1.2.1 Try.underlying32 rfl (by kernel_rfl) rfl ?_
         rw [HSO.out]
         first | exact ⟨_, _, _, _, rfl, HEND.out.1.2.2.1.below (below_drewN' (Below.refl _ _) 1) HEND.out.1.2.2.2.2.2, Nat.le_trans (by omega : N ≤ N + 5) HNL.out, HEND.out.1.2.2.2.2.2, HEND.out.1.2.2.2.1.below (below_drewN' (Below.refl _ _) 1), below_drewN' HEND.out.1.2.2.2.2.1 1⟩ | exact ⟨_, _, rfl, _, _, HEND.out.1.2.2.1.below (below_drewN' (Below.refl _ _) 1) HEND.out.1.2.2.2.2.2, Nat.le_trans (by omega : N ≤ N + 5) HNL.out, HEND.out.1.2.2.2.2.2, HEND.out.1.2.2.2.1.below (below_drewN' (Below.refl _ _) 1), below_drewN' HEND.out.1.2.2.2.2.1 1⟩)
      | (rw [row5 HYR.out, row5 (w := w5.setRow (N + 4) _) ((setRow_other _ _ _ _ (by omega)).trans HYH.out)]
         go_wp2
         refine ret_cct (g := N + 3) (g2 := N + 4) rfl rfl rfl (t := 29) (t2 := 32) (fr := (0, 0)) (fr2 := (0, 0)) HEND.out.2.1 Try.underlying29 rfl (by kernel_rfl) HEND.out.2.2.1 Try.underlying32 rfl (by kernel_rfl) rfl ?_
         rw [HSO.out]
         first | exact ⟨_, _, _, _, rfl, HEND.out.2.2.2.1.below (below_drewN' (Below.refl _ _) 1) HEND.out.2.2.2.2.2.2, Nat.le_trans (by omega : N ≤ N + 5) HNL.out, HEND.out.2.2.2.2.2.2, HEND.out.2.2.2.2.1.below (below_drewN' (Below.refl _ _) 1), below_drewN' HEND.out.2.2.2.2.2.1 1⟩ | exact ⟨_, _, rfl, _, _, HEND.out.2.2.2.1.below (below_drewN' (Below.refl _ _) 1) HEND.out.2.2.2.2.2.2, Nat.le_trans (by omega : N ≤ N + 5) HNL.out, HEND.out.2.2.2.2.2.2, HEND.out.2.2.2.2.1.below (below_drewN' (Below.refl _ _) 1), below_drewN' HEND.out.2.2.2.2.2.1 1⟩)
  · obtain ⟨x', tf, er, hte⟩ : ∃ x' tf er, reapX x = (x', tf, er) := ⟨_, _, _, rfl⟩
    have hts := reap_small HR.out
    have hrt := rg_reap HG.out HR.out HGL.out
    have hft := fun (w : World) (v : Value) (h : Rf x w v) => rf_reap w h HR.out
    have HSO : Hid (stepX 4 f x = x') := by show (reapX x).1 = _; rw [hte]
    rw [hte] at hts hrt hft
    have HRT := Lib.hid hrt
    have HFT := Lib.hid hft
    clear hte hrt hft
    go_wp2_with (refine wpList_load_row rfl 29 _ rfl N rfl 29 #[.slice A0 n0 c0, .int .u16 p0, .int .u16 t0, .int .u16 d0, .int .u16 r0] (0, 0) _ HX.out Try.underlying29 rfl (by kernel_rfl) ?_)
    refine (HRT.out).mono ?_
    rintro e w2 ⟨v, u, rfl, hg, hu, hb⟩
    have hH := Nat.le_refl w2.heap.size
    obtain ⟨A2, n2, c2, p2, t2, d2, r2, rfl⟩ := hg.form_
    have hbb := hb.alloc hb.size (.cells #[.slice A2 n2 c2, .int .u16 p2, .int .u16 t2, .int .u16 d2, .int .u16 r2] 29)
    have hn2 := (Below.refl w2.heap.size w2).alloc (Nat.le_refl _) (.cells #[.slice A2 n2 c2, .int .u16 p2, .int .u16 t2, .int .u16 d2, .int .u16 r2] 29)
    obtain ⟨lo2, hlo2⟩ : ∃ k, w1.heap.size = k := ⟨_, rfl⟩
    have HGN := Lib.hid (hg.below hn2 hH)
    have HZ := Lib.hid (heap_alloc_new w2 (.cells #[.slice A2 n2 c2, .int .u16 p2, .int .u16 t2, .int .u16 d2, .int .u16 r2] 29))
    have HPN : Hid (N + 4 < w2.heap.size) := row_lt (old_below HYR.out hb (row_lt HYR.out))
    have HGNL := Lib.hid (Nat.le_trans hH hn2.size)
    have HNL : Hid (N + 5 ≤ lo2) := by rw [← hlo2]; exact HNS.out
    rw [hlo2] at HGN
    obtain ⟨A9, c9, rfl, hru, -⟩ := hu
    have HRU := Lib.hid (hru.below hn2 (Nat.le_refl _))
    rw [hlo2] at HRU
    have HRUL := HGNL
    clear hru
    have HX := Lib.hid (old_below HX.out hbb (row_lt HX.out))
    have HXR := Lib.hid (old_below HXR.out hbb (row_lt HXR.out))
    have HXO := Lib.hid (old_below HXO.out hbb (row_lt HXO.out))
    have HYH := Lib.hid (old_below HYH.out hbb (row_lt HYH.out))
    have HYR := Lib.hid (old_below HYR.out hbb (row_lt HYR.out))
    have HF := Lib.hid (HF.out.below hbb)
    have HRD := Lib.hid (HRD.out.below hbb HRDL.out)
    have HRDL := Lib.hid (Nat.le_trans HRDL.out hbb.size)
    have HB := Lib.hid (HB.out.trans (hbb.mono (by have := HB.out.size; have := HNS.out; omega)))
    have HNS : Hid (N + 5 ≤ _) := Nat.le_trans HNS.out hbb.size
    clear hbb
    clear hg hb hH hn2
    go_upto_region 29 with (refine wpList_store_new rfl 29 _ _ rfl w2 #[.slice none 0 0, .int .u16 0, .int .u16 0, .int .u16 0, .int .u16 0] #[.slice A2 n2 c2, .int .u16 p2, .int .u16 t2, .int .u16 d2, .int .u16 r2] rfl rfl (by kernel_rfl) (rfl) (ring_ones _ _ _ _ _ _ _) ?_)
    generalize (w2.alloc (.cells #[.slice A2 n2 c2, .int .u16 p2, .int .u16 t2, .int .u16 d2, .int .u16 r2] 29)) = w3 at HGN HGNL HZ HX HXR HXO HYH HYR HF HRD HRDL HB HNS HRU HRUL ⊢
    generalize w2.heap.size = P2 at *
    clear HG HGL HRT f0 f1
    go_wp2_with (refine wpList_load_row rfl 32 _ rfl (N + 1) rfl 32 #[.int .i64 m1, .slice E1 i1 x1, .slice F1 j1 y1, .slice G1 k1 z1, .int .i64 o1] (0, 0) _ HXR.out Try.underlying32 rfl (by kernel_rfl) ?_)
    refine (HFT.out w3 _ HF.out).mono ?_
    rintro e w4 ⟨v, rfl, hf, hb⟩
    obtain ⟨m3, E3, i3, x3, F3, j3, y3, G3, k3, z3, o3, rfl⟩ := hf.form_
    have hbb := hb.alloc hb.size (.cells #[.int .i64 m3, .slice E3 i3 x3, .slice F3 j3 y3, .slice G3 k3 z3, .int .i64 o3] 32)
    have HFN := Lib.hid (hf.below ((Below.refl w4.heap.size w4).alloc (Nat.le_refl _) (.cells #[.int .i64 m3, .slice E3 i3 x3, .slice F3 j3 y3, .slice G3 k3 z3, .int .i64 o3] 32)))
    have HU := Lib.hid (heap_alloc_new w4 (.cells #[.int .i64 m3, .slice E3 i3 x3, .slice F3 j3 y3, .slice G3 k3 z3, .int .i64 o3] 32))
    have HPM : Hid (N + 4 < w4.heap.size) := row_lt (old_below HYR.out hb (row_lt HYR.out))
    have HRU := Lib.hid (HRU.out.below hbb HRUL.out)
    have HYH := Lib.hid (old_below HYH.out hbb (row_lt HYH.out))
    have HYR := Lib.hid (old_below HYR.out hbb (row_lt HYR.out))
    have HZ := Lib.hid (old_below HZ.out hbb (row_lt HZ.out))
    have HGN := Lib.hid (HGN.out.below hbb HGNL.out)
    have HGNL := Lib.hid (Nat.le_trans HGNL.out hbb.size)
    have HB := Lib.hid (HB.out.trans (hbb.mono (by have := HB.out.size; have := HNS.out; omega)))
    have HNS : Hid (N + 5 ≤ _) := Nat.le_trans HNS.out hbb.size
    clear hbb
    clear hf hb
    go_upto_region 30 with (refine wpList_store_new rfl 32 _ _ rfl w4 #[.int .i64 0, .slice none 0 0, .slice none 0 0, .slice none 0 0, .int .i64 0] #[.int .i64 m3, .slice E3 i3 x3, .slice F3 j3 y3, .slice G3 k3 z3, .int .i64 o3] rfl rfl (by kernel_rfl) (rfl) (rf_ones _ _ _ _ _ _ _ _ _ _ _) ?_)
    generalize (w4.alloc (.cells #[.int .i64 m3, .slice E3 i3 x3, .slice F3 j3 y3, .slice G3 k3 z3, .int .i64 o3] 32)) = w5 at HFN HU HYH HYR HZ HGN HGNL HB HNS  HRU ⊢
    generalize w4.heap.size = P4 at *
    have HGNW : Hid (N + 5 ≤ lo2 ∧ _ ≤ w5.heap.size) := ⟨HNL.out, HGNL.out⟩
    have HEND := Lib.hid (step_end HGN.out HGNW.out HFN.out HYH.out HYR.out HB.out)
    obtain ⟨a0, a1, a2, a3, a4⟩ := five_cells HZ.out
    obtain ⟨b0, b1, b2, b3, b4⟩ := five_cells HU.out
    obtain ⟨q0, q1, q2, q3, q4⟩ := five_cells HYH.out
    obtain ⟨s0, s1, s2, s3, s4⟩ := five_cells HYR.out
    have g0 := frozen_of_row w5 (N + 3) 0 _ _ HYH.out
    have l0 := frozen_of_row w5 (N + 4) 0 _ _ HYR.out
    have g1 := frozen_of_row w5 (N + 3) 1 _ _ HYH.out
    have l1 := frozen_of_row w5 (N + 4) 1 _ _ HYR.out
    have g2 := frozen_of_row w5 (N + 3) 2 _ _ HYH.out
    have l2 := frozen_of_row w5 (N + 4) 2 _ _ HYR.out
    have g3 := frozen_of_row w5 (N + 3) 3 _ _ HYH.out
    have l3 := frozen_of_row w5 (N + 4) 3 _ _ HYR.out
    have g4 := frozen_of_row w5 (N + 3) 4 _ _ HYH.out
    have l4 := frozen_of_row w5 (N + 4) 4 _ _ HYR.out
    have ne1 : ¬ N + 1 + 1 + 1 = P2 := by have := HPN.out; omega
    have ne2 : ¬ N + 1 + 1 + 1 = P4 := by have := HPM.out; omega
    have ne3 : ¬ N + 1 + 1 + 1 + 1 = P2 := by have := HPN.out; omega
    have ne4 : ¬ N + 1 + 1 + 1 + 1 = P4 := by have := HPM.out; omega
    have ne5 : ¬ P2 = N + 1 + 1 + 1 := by have := HPN.out; omega
    have ne6 : ¬ P4 = N + 1 + 1 + 1 := by have := HPM.out; omega
    have ne7 : ¬ P2 = N + 1 + 1 + 1 + 1 := by have := HPN.out; omega
    have ne8 : ¬ P4 = N + 1 + 1 + 1 + 1 := by have := HPM.out; omega
    have cv0 : (convert 35 9 (.slice A9 tf.length c9)).run Try.prog (w5) = .ok (.string ⟨tf.toArray⟩) (w5) := run_text (P := Try.prog) (w5) 35 9 5 (l := tf) c9 Try.underlying35 Try.underlying5 Try.underlying9 (HRU.out)
    have cv1 : (convert 35 9 (.slice A9 tf.length c9)).run Try.prog (w5.drew) = .ok (.string ⟨tf.toArray⟩) (w5.drew) := run_text (P := Try.prog) (w5.drew) 35 9 5 (l := tf) c9 Try.underlying35 Try.underlying5 Try.underlying9 (HRU.out)
    have cv2 : (convert 35 9 (.slice A9 tf.length c9)).run Try.prog (((((((w5).setCell ⟨N + 1 + 1 + 1, 0, none⟩ (.slice A2 n2 c2)).setCell ⟨N + 1 + 1 + 1, 1, none⟩ (.int .u16 p2)).setCell ⟨N + 1 + 1 + 1, 2, none⟩ (.int .u16 t2)).setCell ⟨N + 1 + 1 + 1, 3, none⟩ (.int .u16 d2)).setCell ⟨N + 1 + 1 + 1, 4, none⟩ (.int .u16 r2)).drew) = .ok (.string ⟨tf.toArray⟩) (((((((w5).setCell ⟨N + 1 + 1 + 1, 0, none⟩ (.slice A2 n2 c2)).setCell ⟨N + 1 + 1 + 1, 1, none⟩ (.int .u16 p2)).setCell ⟨N + 1 + 1 + 1, 2, none⟩ (.int .u16 t2)).setCell ⟨N + 1 + 1 + 1, 3, none⟩ (.int .u16 d2)).setCell ⟨N + 1 + 1 + 1, 4, none⟩ (.int .u16 r2)).drew) := by
      rw [row5 (show w5.heap[N + 1 + 1 + 1]? = some (.cells #[.slice none 0 0, .int .u16 0, .int .u16 0, .int .u16 0, .int .u16 0] 29 (0, 0)) from HYH.out)]
      exact run_text (P := Try.prog) ((w5.setRow (N + 1 + 1 + 1) #[.slice A2 n2 c2, .int .u16 p2, .int .u16 t2, .int .u16 d2, .int .u16 r2]).drew) 35 9 5 (l := tf) c9 Try.underlying35 Try.underlying5 Try.underlying9 (HRU.out.setRow (.inl (by have := HNL.out; omega)) _)
    have cv3 : (convert 35 9 (.slice A9 tf.length c9)).run Try.prog (((((((w5).setCell ⟨N + 1 + 1 + 1 + 1, 0, none⟩ (.int .i64 m3)).setCell ⟨N + 1 + 1 + 1 + 1, 1, none⟩ (.slice E3 i3 x3)).setCell ⟨N + 1 + 1 + 1 + 1, 2, none⟩ (.slice F3 j3 y3)).setCell ⟨N + 1 + 1 + 1 + 1, 3, none⟩ (.slice G3 k3 z3)).setCell ⟨N + 1 + 1 + 1 + 1, 4, none⟩ (.int .i64 o3)).drew) = .ok (.string ⟨tf.toArray⟩) (((((((w5).setCell ⟨N + 1 + 1 + 1 + 1, 0, none⟩ (.int .i64 m3)).setCell ⟨N + 1 + 1 + 1 + 1, 1, none⟩ (.slice E3 i3 x3)).setCell ⟨N + 1 + 1 + 1 + 1, 2, none⟩ (.slice F3 j3 y3)).setCell ⟨N + 1 + 1 + 1 + 1, 3, none⟩ (.slice G3 k3 z3)).setCell ⟨N + 1 + 1 + 1 + 1, 4, none⟩ (.int .i64 o3)).drew) := by
      rw [row5 (show w5.heap[N + 1 + 1 + 1 + 1]? = some (.cells #[.int .i64 0, .slice none 0 0, .slice none 0 0, .slice none 0 0, .int .i64 0] 32 (0, 0)) from HYR.out)]
      exact run_text (P := Try.prog) ((w5.setRow (N + 1 + 1 + 1 + 1) #[.int .i64 m3, .slice E3 i3 x3, .slice F3 j3 y3, .slice G3 k3 z3, .int .i64 o3]).drew) 35 9 5 (l := tf) c9 Try.underlying35 Try.underlying5 Try.underlying9 (HRU.out.setRow (.inl (by have := HNL.out; omega)) _)
    skip
    go_region
    all_goals first
      | (rw [row5 HYH.out, row5 (w := w5.setRow (N + 3) _) ((setRow_other _ _ _ _ (by omega)).trans HYR.out)]
         go_wp2
         refine ret_cct (g := N + 3) (g2 := N + 4) rfl rfl rfl (t := 29) (t2 := 32) (fr := (0, 0)) (fr2 := (0, 0)) HEND.out.1.1 Try.underlying29 rfl (by kernel_rfl) HEND.out.1.2.1 Try.underlying32 rfl (by kernel_rfl) rfl ?_
         rw [HSO.out]
         first | exact ⟨_, _, _, _, rfl, HEND.out.1.2.2.1.below (below_drewN' (Below.refl _ _) 1) HEND.out.1.2.2.2.2.2, Nat.le_trans (by omega : N ≤ N + 5) HNL.out, HEND.out.1.2.2.2.2.2, HEND.out.1.2.2.2.1.below (below_drewN' (Below.refl _ _) 1), below_drewN' HEND.out.1.2.2.2.2.1 1⟩ | exact ⟨_, _, rfl, _, _, HEND.out.1.2.2.1.below (below_drewN' (Below.refl _ _) 1) HEND.out.1.2.2.2.2.2, Nat.le_trans (by omega : N ≤ N + 5) HNL.out, HEND.out.1.2.2.2.2.2, HEND.out.1.2.2.2.1.below (below_drewN' (Below.refl _ _) 1), below_drewN' HEND.out.1.2.2.2.2.1 1⟩)
      | (rw [row5 HYR.out, row5 (w := w5.setRow (N + 4) _) ((setRow_other _ _ _ _ (by omega)).trans HYH.out)]
         go_wp2
         refine ret_cct (g := N + 3) (g2 := N + 4) rfl rfl rfl (t := 29) (t2 := 32) (fr := (0, 0)) (fr2 := (0, 0)) HEND.out.2.1 Try.underlying29 rfl (by kernel_rfl) HEND.out.2.2.1 Try.underlying32 rfl (by kernel_rfl) rfl ?_
         rw [HSO.out]
         first | exact ⟨_, _, _, _, rfl, HEND.out.2.2.2.1.below (below_drewN' (Below.refl _ _) 1) HEND.out.2.2.2.2.2.2, Nat.le_trans (by omega : N ≤ N + 5) HNL.out, HEND.out.2.2.2.2.2.2, HEND.out.2.2.2.2.1.below (below_drewN' (Below.refl _ _) 1), below_drewN' HEND.out.2.2.2.2.2.1 1⟩ | exact ⟨_, _, rfl, _, _, HEND.out.2.2.2.1.below (below_drewN' (Below.refl _ _) 1) HEND.out.2.2.2.2.2.2, Nat.le_trans (by omega : N ≤ N + 5) HNL.out, HEND.out.2.2.2.2.2.2, HEND.out.2.2.2.2.1.below (below_drewN' (Below.refl _ _) 1), below_drewN' HEND.out.2.2.2.2.2.1 1⟩)
  · have HSO : Hid (stepX 5 f x = quietX x) := rfl
    go_wp2_with (refine wpList_load_row rfl 29 _ rfl N rfl 29 #[.slice A0 n0 c0, .int .u16 p0, .int .u16 t0, .int .u16 d0, .int .u16 r0] (0, 0) _ HX.out Try.underlying29 rfl (by kernel_rfl) ?_)
    refine (rg_quiet HG.out HR.out HGL.out).mono ?_
    rintro e w2 ⟨v, u, us, rfl, hg, hu, hfr, hb⟩
    have hH := Nat.le_refl w2.heap.size
    obtain ⟨A2, n2, c2, p2, t2, d2, r2, rfl⟩ := hg.form_
    have hbb := hb.alloc hb.size (.cells #[.slice A2 n2 c2, .int .u16 p2, .int .u16 t2, .int .u16 d2, .int .u16 r2] 29)
    have hn2 := (Below.refl w2.heap.size w2).alloc (Nat.le_refl _) (.cells #[.slice A2 n2 c2, .int .u16 p2, .int .u16 t2, .int .u16 d2, .int .u16 r2] 29)
    obtain ⟨lo2, hlo2⟩ : ∃ k, w1.heap.size = k := ⟨_, rfl⟩
    have HGN := Lib.hid (hg.below hn2 hH)
    have HZ := Lib.hid (heap_alloc_new w2 (.cells #[.slice A2 n2 c2, .int .u16 p2, .int .u16 t2, .int .u16 d2, .int .u16 r2] 29))
    have HPN : Hid (N + 4 < w2.heap.size) := row_lt (old_below HYR.out hb (row_lt HYR.out))
    have HGNL := Lib.hid (Nat.le_trans hH hn2.size)
    have HNL : Hid (N + 5 ≤ lo2) := by rw [← hlo2]; exact HNS.out
    rw [hlo2] at HGN
    obtain ⟨A9, c9, rfl, -⟩ := ownk_form hu
    have OFW := Lib.hid (ownk_below hu hn2 (Nat.le_refl _))
    have HFW := Lib.hid (hfr.stay (Stay.of hn2 (Nat.le_refl _)))
    rw [hlo2] at HFW
    clear hu hfr
    have HX := Lib.hid (old_below HX.out hbb (row_lt HX.out))
    have HXR := Lib.hid (old_below HXR.out hbb (row_lt HXR.out))
    have HXO := Lib.hid (old_below HXO.out hbb (row_lt HXO.out))
    have HYH := Lib.hid (old_below HYH.out hbb (row_lt HYH.out))
    have HYR := Lib.hid (old_below HYR.out hbb (row_lt HYR.out))
    have HF := Lib.hid (HF.out.below hbb)
    have HRD := Lib.hid (HRD.out.below hbb HRDL.out)
    have HRDL := Lib.hid (Nat.le_trans HRDL.out hbb.size)
    have HB := Lib.hid (HB.out.trans (hbb.mono (by have := HB.out.size; have := HNS.out; omega)))
    have HNS : Hid (N + 5 ≤ _) := Nat.le_trans HNS.out hbb.size
    clear hbb
    clear hg hb hH hn2
    go_upto_region 32 with (refine wpList_store_new rfl 29 _ _ rfl w2 #[.slice none 0 0, .int .u16 0, .int .u16 0, .int .u16 0, .int .u16 0] #[.slice A2 n2 c2, .int .u16 p2, .int .u16 t2, .int .u16 d2, .int .u16 r2] rfl rfl (by kernel_rfl) (rfl) (ring_ones _ _ _ _ _ _ _) ?_)
    generalize (w2.alloc (.cells #[.slice A2 n2 c2, .int .u16 p2, .int .u16 t2, .int .u16 d2, .int .u16 r2] 29)) = w3 at HGN HGNL HZ HX HXR HXO HYH HYR HF HRD HRDL HB HNS OFW HFW ⊢
    generalize w2.heap.size = P2 at *
    clear HG HGL f0 f1
    go_wp2_with (refine wpList_load_row rfl 32 _ rfl (N + 1) rfl 32 #[.int .i64 m1, .slice E1 i1 x1, .slice F1 j1 y1, .slice G1 k1 z1, .int .i64 o1] (0, 0) _ HXR.out Try.underlying32 rfl (by kernel_rfl) ?_)
    refine (rf_quiet w3 HF.out HR.out).mono ?_
    rintro e w4 ⟨v, AQ, cQ, rfl, hf, hsr, hb⟩
    obtain ⟨m3, E3, i3, x3, F3, j3, y3, G3, k3, z3, o3, rfl⟩ := hf.form_
    have hbb := hb.alloc hb.size (.cells #[.int .i64 m3, .slice E3 i3 x3, .slice F3 j3 y3, .slice G3 k3 z3, .int .i64 o3] 32)
    have HFN := Lib.hid (hf.below ((Below.refl w4.heap.size w4).alloc (Nat.le_refl _) (.cells #[.int .i64 m3, .slice E3 i3 x3, .slice F3 j3 y3, .slice G3 k3 z3, .int .i64 o3] 32)))
    have HU := Lib.hid (heap_alloc_new w4 (.cells #[.int .i64 m3, .slice E3 i3 x3, .slice F3 j3 y3, .slice G3 k3 z3, .int .i64 o3] 32))
    have HPM : Hid (N + 4 < w4.heap.size) := row_lt (old_below HYR.out hb (row_lt HYR.out))
    have HFW := Lib.hid (HFW.out.stay (Stay.of hbb HGNL.out))
    have HSR := Lib.hid (hsr.below ((Below.refl w4.heap.size w4).alloc (Nat.le_refl _) (.cells #[.int .i64 m3, .slice E3 i3 x3, .slice F3 j3 y3, .slice G3 k3 z3, .int .i64 o3] 32)) (Nat.le_refl _))
    clear hsr
    have HYH := Lib.hid (old_below HYH.out hbb (row_lt HYH.out))
    have HYR := Lib.hid (old_below HYR.out hbb (row_lt HYR.out))
    have HZ := Lib.hid (old_below HZ.out hbb (row_lt HZ.out))
    have HGN := Lib.hid (HGN.out.below hbb HGNL.out)
    have HGNL := Lib.hid (Nat.le_trans HGNL.out hbb.size)
    have OFW := Lib.hid (ownk_below OFW.out hbb (Nat.le_refl _))
    have HB := Lib.hid (HB.out.trans (hbb.mono (by have := HB.out.size; have := HNS.out; omega)))
    have HNS : Hid (N + 5 ≤ _) := Nat.le_trans HNS.out hbb.size
    clear hbb
    clear hf hb
    go_upto_region 33 with (refine wpList_store_new rfl 32 _ _ rfl w4 #[.int .i64 0, .slice none 0 0, .slice none 0 0, .slice none 0 0, .int .i64 0] #[.int .i64 m3, .slice E3 i3 x3, .slice F3 j3 y3, .slice G3 k3 z3, .int .i64 o3] rfl rfl (by kernel_rfl) (rfl) (rf_ones _ _ _ _ _ _ _ _ _ _ _) ?_)
    generalize (w4.alloc (.cells #[.int .i64 m3, .slice E3 i3 x3, .slice F3 j3 y3, .slice G3 k3 z3, .int .i64 o3] 32)) = w5 at HFN HU HYH HYR HZ HGN HGNL HB HNS OFW HFW HSR ⊢
    generalize w4.heap.size = P4 at *
    have HGNW : Hid (N + 5 ≤ lo2 ∧ _ ≤ w5.heap.size) := ⟨HNL.out, HGNL.out⟩
    obtain ⟨L, hL⟩ : ∃ L, x.P.length = L := ⟨_, rfl⟩
    rw [hL] at OFW ⊢
    have HLL := Lib.hid hL
    have hl16 : L ≤ 16 := by have h1 := HR.out.le; have h2 := HR.out.may.pos; simp only [Rn.len] at h1; omega
    clear hL HRD HRDL HF HX HXR HXO
    go_wp2
    go_loopw [179] (fun tt wr => ∃ k : Nat, k ≤ L ∧ tt = .int .i64 (k : Int) ∧ Hid (Below w5.heap.size w5 wr)) (fun tt _ => L - (intOf tt).toNat)
    case atStart => exact ⟨0, Nat.zero_le _, rfl, Below.refl _ _⟩
    case round =>
      obtain ⟨k, hk, rfl, HBK⟩ := hrel
      by_cases hks : k < L
      · obtain ⟨p, hp⟩ : ∃ p, x.P[k]? = some p := ⟨_, List.getElem?_eq_getElem (by rw [HLL.out]; exact hks)⟩
        obtain ⟨v7, hv7, A7, c7, rfl, hrd7, -⟩ := HFW.out.2 k p hp
        obtain ⟨g6, c6', cur6, e6, -⟩ := ownk_some OFW.out (by omega)
        injection e6 with e6 _ e7
        subst e6 e7
        have hcr := cell_regrown (own_cell (ownk_below OFW.out HBK.out (Nat.le_refl _)) hv7)
        obtain ⟨ad, rfl, hca⟩ := (HSR.out.below HBK.out (Nat.le_refl _)).at_ hp
        have hcl := cell_regrown hca
        have hcv : ∀ dd os, (convert 35 9 (.slice A7 p.length c7)).run Try.prog («Sort».grow (redrawn wr dd) os) = .ok (txt p) («Sort».grow (redrawn wr dd) os) := fun dd os => run_text (P := Try.prog) _ 35 9 5 (l := p) c7 Try.underlying35 Try.underlying5 Try.underlying9 ((hrd7.stay (Stay.of HBK.out HGNL.out)).below (below_regrown wr dd os) (by have := HGNL.out; have := HBK.out.size; omega))
        have hk0 : (0 : Int) ≤ (k : Int) := by omega
        have hk1 : (k : Int) < (L : Int) := by omega
        clear hp hv7 hrd7 hca cur6
        go_upto_region 38 with (fail)
        refine wp_region_quiet_below (by kernel_rfl) (by kernel_rfl) ?_
        repeat (quiet_step (fail))
        refine wpQuiet_nil ?_
        intro w7 hw'
        obtain ⟨⟨dq, osq⟩, rfl⟩ := hw'
        have hb7 := below_regrown wr dq osq
        clear hcr hcl hcv
        generalize «Sort».grow (redrawn wr dq) osq = w7 at hb7 ⊢
        have HB7 := Lib.hid (HBK.out.trans (hb7.mono HBK.out.size))
        clear hb7
        go_wp2
        go_roundw
        case rel => exact ⟨k + 1, by omega, by go_num, HB7⟩
        case measure => simp [intOf]; omega
      · have hkn : ¬ (k : Int) < (L : Int) := by omega
        have hbk := HBK.out
        clear hk hks HBK
        have HYH := Lib.hid (old_below HYH.out hbk (row_lt HYH.out))
        have HYR := Lib.hid (old_below HYR.out hbk (row_lt HYR.out))
        have HZ := Lib.hid (old_below HZ.out hbk (row_lt HZ.out))
        have HU := Lib.hid (old_below HU.out hbk (row_lt HU.out))
        have HFN := Lib.hid (HFN.out.below hbk)
        have HGN := Lib.hid (HGN.out.below hbk HGNL.out)
        have HGNL := Lib.hid (Nat.le_trans HGNL.out hbk.size)
        have HB := Lib.hid (HB.out.trans (hbk.mono (by have := HB.out.size; have := HNS.out; omega)))
        have HNS : Hid (N + 5 ≤ _) := Nat.le_trans HNS.out hbk.size
        clear hbk
        have HGNW : Hid (N + 5 ≤ lo2 ∧ _ ≤ wr.heap.size) := ⟨HNL.out, HGNL.out⟩
        generalize wr = w7 at *
        have HEND := Lib.hid (step_end HGN.out HGNW.out HFN.out HYH.out HYR.out HB.out)
        obtain ⟨a0, a1, a2, a3, a4⟩ := five_cells HZ.out
        obtain ⟨b0, b1, b2, b3, b4⟩ := five_cells HU.out
        obtain ⟨q0, q1, q2, q3, q4⟩ := five_cells HYH.out
        obtain ⟨s0, s1, s2, s3, s4⟩ := five_cells HYR.out
        have g0 := frozen_of_row w7 (N + 3) 0 _ _ HYH.out
        have l0 := frozen_of_row w7 (N + 4) 0 _ _ HYR.out
        have g1 := frozen_of_row w7 (N + 3) 1 _ _ HYH.out
        have l1 := frozen_of_row w7 (N + 4) 1 _ _ HYR.out
        have g2 := frozen_of_row w7 (N + 3) 2 _ _ HYH.out
        have l2 := frozen_of_row w7 (N + 4) 2 _ _ HYR.out
        have g3 := frozen_of_row w7 (N + 3) 3 _ _ HYH.out
        have l3 := frozen_of_row w7 (N + 4) 3 _ _ HYR.out
        have g4 := frozen_of_row w7 (N + 3) 4 _ _ HYH.out
        have l4 := frozen_of_row w7 (N + 4) 4 _ _ HYR.out
        have ne1 : ¬ N + 1 + 1 + 1 = P2 := by have := HPN.out; omega
        have ne2 : ¬ N + 1 + 1 + 1 = P4 := by have := HPM.out; omega
        have ne3 : ¬ N + 1 + 1 + 1 + 1 = P2 := by have := HPN.out; omega
        have ne4 : ¬ N + 1 + 1 + 1 + 1 = P4 := by have := HPM.out; omega
        have ne5 : ¬ P2 = N + 1 + 1 + 1 := by have := HPN.out; omega
        have ne6 : ¬ P4 = N + 1 + 1 + 1 := by have := HPM.out; omega
        have ne7 : ¬ P2 = N + 1 + 1 + 1 + 1 := by have := HPN.out; omega
        have ne8 : ¬ P4 = N + 1 + 1 + 1 + 1 := by have := HPM.out; omega
        go_upto_region 41 with (fail)
        go_region
        all_goals first
          | (rw [row5 HYH.out, row5 (w := w7.setRow (N + 3) _) ((setRow_other _ _ _ _ (by omega)).trans HYR.out)]
             go_wp2
             refine ret_cct (g := N + 3) (g2 := N + 4) rfl rfl rfl (t := 29) (t2 := 32) (fr := (0, 0)) (fr2 := (0, 0)) HEND.out.1.1 Try.underlying29 rfl (by kernel_rfl) HEND.out.1.2.1 Try.underlying32 rfl (by kernel_rfl) rfl ?_
             rw [HSO.out]
             first | exact ⟨_, _, _, _, rfl, HEND.out.1.2.2.1.below (below_drewN' (Below.refl _ _) 1) HEND.out.1.2.2.2.2.2, Nat.le_trans (by omega : N ≤ N + 5) HNL.out, HEND.out.1.2.2.2.2.2, HEND.out.1.2.2.2.1.below (below_drewN' (Below.refl _ _) 1), below_drewN' HEND.out.1.2.2.2.2.1 1⟩ | exact ⟨_, _, rfl, _, _, HEND.out.1.2.2.1.below (below_drewN' (Below.refl _ _) 1) HEND.out.1.2.2.2.2.2, Nat.le_trans (by omega : N ≤ N + 5) HNL.out, HEND.out.1.2.2.2.2.2, HEND.out.1.2.2.2.1.below (below_drewN' (Below.refl _ _) 1), below_drewN' HEND.out.1.2.2.2.2.1 1⟩)
          | (rw [row5 HYR.out, row5 (w := w7.setRow (N + 4) _) ((setRow_other _ _ _ _ (by omega)).trans HYH.out)]
             go_wp2
             refine ret_cct (g := N + 3) (g2 := N + 4) rfl rfl rfl (t := 29) (t2 := 32) (fr := (0, 0)) (fr2 := (0, 0)) HEND.out.2.1 Try.underlying29 rfl (by kernel_rfl) HEND.out.2.2.1 Try.underlying32 rfl (by kernel_rfl) rfl ?_
             rw [HSO.out]
             first | exact ⟨_, _, _, _, rfl, HEND.out.2.2.2.1.below (below_drewN' (Below.refl _ _) 1) HEND.out.2.2.2.2.2.2, Nat.le_trans (by omega : N ≤ N + 5) HNL.out, HEND.out.2.2.2.2.2.2, HEND.out.2.2.2.2.1.below (below_drewN' (Below.refl _ _) 1), below_drewN' HEND.out.2.2.2.2.2.1 1⟩ | exact ⟨_, _, rfl, _, _, HEND.out.2.2.2.1.below (below_drewN' (Below.refl _ _) 1) HEND.out.2.2.2.2.2.2, Nat.le_trans (by omega : N ≤ N + 5) HNL.out, HEND.out.2.2.2.2.2.2, HEND.out.2.2.2.2.1.below (below_drewN' (Below.refl _ _) 1), below_drewN' HEND.out.2.2.2.2.2.1 1⟩)
end Go.Proofs.Ytdbiledmokldjaa
