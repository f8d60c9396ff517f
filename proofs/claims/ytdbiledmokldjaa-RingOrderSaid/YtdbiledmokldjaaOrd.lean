/-
  The law RingOrder: every int and every slice of ops. No condition.
-/
import Derived.Test.YtdbiledmokldjaaFul
namespace Go.Proofs.Ytdbiledmokldjaa
open Go.RowKit

/-- three rows of texts of the call's own, apart from one another and from the blocks lo to hi -/
structure Own3 (B lo hi : Nat) (a b c : Value) (na nb nc : Nat) (pa pb pc : List Fr) (w : World) : Prop where
  oa : w.ownsRow B 9 1 a na (strs pa)
  ob : w.ownsRow B 9 1 b nb (strs pb)
  oc : w.ownsRow B 9 1 c nc (strs pc)
  nab : ∀ k, a.ownBlock = some k → b.ownBlock ≠ some k
  nbc : ∀ k, b.ownBlock = some k → c.ownBlock ≠ some k
  nca : ∀ k, c.ownBlock = some k → a.ownBlock ≠ some k
  wa : ∀ k, a.ownBlock = some k → k < lo ∨ hi ≤ k
  wb : ∀ k, b.ownBlock = some k → k < lo ∨ hi ≤ k
  wc : ∀ k, c.ownBlock = some k → k < lo ∨ hi ≤ k
section
variable {B lo hi na nb nc : Nat} {a b c a' : Value} {pa pb pc : List Fr} {w w' : World} {f : Fr}
theorem Own3.rot (h : Own3 B lo hi a b c na nb nc pa pb pc w) : Own3 B lo hi b c a nb nc na pb pc pa w := ⟨h.ob, h.oc, h.oa, h.nbc, h.nca, h.nab, h.wb, h.wc, h.wa⟩
theorem Own3.below (h : Own3 B lo hi a b c na nb nc pa pb pc w) (hb : Below w.heap.size w w') : Own3 B lo hi a b c na nb nc pa pb pc w' :=
  ⟨ownk_below h.oa hb (Nat.le_refl _), ownk_below h.ob hb (Nat.le_refl _), ownk_below h.oc hb (Nat.le_refl _), h.nab, h.nbc, h.nca, h.wa, h.wb, h.wc⟩
theorem Own3.ring {hi' : Nat} (h : Own3 B lo hi a b c na nb nc pa pb pc w) (hb : Below w.heap.size w w') : Own3 B w.heap.size hi' a b c na nb nc pa pb pc w' :=
  ⟨ownk_below h.oa hb (Nat.le_refl _), ownk_below h.ob hb (Nat.le_refl _), ownk_below h.oc hb (Nat.le_refl _), h.nab, h.nbc, h.nca, fun k e => .inl (h.oa.lt k e).2, fun k e => .inl (h.ob.lt k e).2, fun k e => .inl (h.oc.lt k e).2⟩
theorem Own3.other (h : Own3 B lo hi a b c na nb nc pa pb pc w) {g : Nat} {C : Array Value} {t : TypeId} {fr : Nat × Nat} (hg : w.heap[g]? = some (.cells C t fr)) (hne : t ≠ 9) (hk : ∀ j, j ≠ g → w'.heap[j]? = w.heap[j]?) : Own3 B lo hi a b c na nb nc pa pb pc w' :=
  ⟨ownk_other h.oa hg hne hk, ownk_other h.ob hg hne hk, ownk_other h.oc hg hne hk, h.nab, h.nbc, h.nca, h.wa, h.wb, h.wc⟩
theorem Own3.app (h : Own3 B lo hi a b c na nb nc pa pb pc w) (ho : w'.ownsRow B 9 1 a' (na + 1) (strs pa ++ [txt f])) (hg : w.grownBy w' a.ownBlock) (hd : a'.ownBlock = a.ownBlock ∨ a'.ownBlock = some w.heap.size) (hh : hi ≤ w.heap.size) : Own3 B lo hi a' b c (na + 1) nb nc (pa ++ [f]) pb pc w' := by
  have kb : b.ownBlock = none ∨ b.ownBlock ≠ a.ownBlock := by
    rcases hb : a.ownBlock with _ | k
    · rcases b.ownBlock with _ | j
      · exact .inl rfl
      · exact .inr (by simp)
    · exact .inr (h.nab k hb)
  have kc : c.ownBlock = none ∨ c.ownBlock ≠ a.ownBlock := by
    rcases hc : c.ownBlock with _ | k
    · exact .inl rfl
    · exact .inr fun e => h.nca k hc e.symm
  refine ⟨by rw [strs_append]; exact ho, h.ob.kept hg kb, h.oc.kept hg kc, fun k e => ?_, h.nbc, fun k e => ?_, fun k e => ?_, h.wb, h.wc⟩
  · rcases hd with hd | hd
    · exact h.nab k (by rw [← hd]; exact e)
    · rw [hd] at e
      injection e with e
      subst e
      intro e2
      have := (h.ob.lt _ e2).2
      omega
  · intro e2
    rcases hd with hd | hd
    · exact h.nca k e (by rw [← hd]; exact e2)
    · rw [hd] at e2
      injection e2 with e2
      have := (h.oc.lt _ e).2
      omega
  · rcases hd with hd | hd
    · exact h.wa k (by rw [← hd]; exact e)
    · rw [hd] at e
      injection e with e
      exact .inr (by omega)
theorem VarG.grownST {N n : Nat} {x : Rn} {v : Value} {xs : List Value} (h : VarG N lo hi x w) (ho : w.ownsRow B 9 1 v n xs) (hg : w.grownBy w' v.ownBlock) (hw : ∀ k, v.ownBlock = some k → k < lo ∨ hi ≤ k) : VarG N lo hi x w' := by
  obtain ⟨⟨cs, h1, h2⟩, h3, h4⟩ := h
  refine ⟨⟨cs, (hg.block N (row_lt h1) fun e => absurd (ownk_type ho e.symm h1) (by decide)).trans h1, h2.stay fun j g1 g2 => hg.block j (by omega) fun e => by have := hw j e.symm; omega⟩, h3, Nat.le_trans h4 hg.size⟩
end
/-- what was posted is what was reaped, is done, was taken, is there; what was taken, all but the last -/
def Iv (x : Rn) (pp tt rr : List Fr) : Prop := pp = rr ++ x.D ++ x.T ++ x.P ∧ tt = rr ++ x.D ++ x.T
theorem ite_no {p A B : Prop} [Decidable p] (h : ¬ p) (b : B) : if p then A else B := by rw [if_neg h]; exact b
theorem ite_yes {p A B : Prop} [Decidable p] (h : p) (a : A) : if p then A else B := by rw [if_pos h]; exact a
theorem inv_post {x : Rn} {pp tt rr : List Fr} (h : Iv x pp tt rr) (f : Fr) : if (postX x f).2 = 0 then Iv (postX x f).1 (pp ++ [f]) tt rr else Iv (postX x f).1 pp tt rr := by
  unfold postX
  split
  · exact ite_no (by simp) h
  · split
    · exact ite_no (by simp) h
    · exact ite_yes rfl ⟨by rw [h.1]; simp [Rn.post], h.2⟩
theorem inv_take {x : Rn} {pp tt rr : List Fr} (h : Iv x pp tt rr) : if (takeX x).2.2 = 0 then Iv (takeX x).1 pp (tt ++ [(takeX x).2.1]) rr else Iv (takeX x).1 pp tt rr := by
  obtain ⟨n, r, D, T, P⟩ := x
  cases P with
  | nil => exact ite_no (by simp [takeX]) h
  | cons f P => exact ite_yes rfl ⟨by rw [h.1]; simp [takeX], by rw [h.2]; simp [takeX]⟩
theorem inv_fin {x : Rn} {pp tt rr : List Fr} (h : Iv x pp tt rr) : Iv (finX x).1 pp tt rr := by
  obtain ⟨n, r, D, T, P⟩ := x
  cases T with
  | nil => exact h
  | cons f T => exact ⟨by rw [h.1]; simp [finX], by rw [h.2]; simp [finX]⟩
theorem inv_reap {x : Rn} {pp tt rr : List Fr} (h : Iv x pp tt rr) : if (reapX x).2.2 = 0 then Iv (reapX x).1 pp tt (rr ++ [(reapX x).2.1]) else Iv (reapX x).1 pp tt rr := by
  obtain ⟨n, r, D, T, P⟩ := x
  cases D with
  | nil => exact ite_no (by simp [reapX]) h
  | cons f D => exact ite_yes rfl ⟨by rw [h.1]; simp [reapX], by rw [h.2]; simp [reapX]⟩
theorem u16_65533 : ((65533 : Nat) : Int) = 65533 := rfl

set_option maxRecDepth 100000 in
set_option maxHeartbeats 16000000 in
theorem order_any (sz : Int) (A : Option Addr) (nl c : Nat) (l : List Opp) (w : World) (h : OpsT w w.heap.size A l) (hl : l.length = nl) (hnl : nl ≤ 140737488351232) :
    Calls Try.prog 4 #[.int .i64 sz, .slice A nl c] w fun e w' => e = .returned (.bool true) ∧ Below w.heap.size w w' := by
  have HOPS := Lib.hid h
  have HLN := Lib.hid hl
  have HFT := Lib.hid (fun w' (hb : Below w.heap.size w w') => fits_any A nl c w.heap.size l w' (h.below hb (Nat.le_refl _)) hb.size hl hnl)
  obtain ⟨q, hq, hq5⟩ := u64_rem sz 5 (by decide) (by decide)
  change (IntKind.u64.wrap sz).tmod 5 = (q : Int) at hq
  obtain ⟨n, hn, hsh⟩ := shl_may q hq5
  have HMN := Lib.hid hn
  obtain ⟨i0, hi0, hz0, hz1, hz2⟩ := info_parts info_st
  have hz3 : (Value.string ⟨#[]⟩).cells.size = 1 := rfl
  clear h hl hn
  go_enter Try.func4, Try.ntmps4
  go_wp2_with fail
  refine (lives_any _).mono ?_
  rintro e w1 ⟨rfl, hb1⟩
  have HB0 := Lib.hid hb1
  clear hb1
  go_wp2_with fail
  refine (HFT.out _ HB0.out).mono ?_
  rintro e w1' ⟨rfl, hb2⟩
  have HB1 := Lib.hid (HB0.out.trans (hb2.mono HB0.out.size))
  clear hb2 HB0 HFT
  cases hft : fitsB l
  · clear hft
    go_wp2_with fail
    refine (lives_any _).mono ?_
    rintro e w3 ⟨rfl, hb3⟩
    have HB3 := Lib.hid (HB1.out.trans (hb3.mono HB1.out.size))
    clear hb3
    go_wp2
    go_ret
    exact ⟨rfl, HB3.out⟩
  · have hfl : nl ≤ 100 ∧ ∀ o ∈ l, o.data.length ≤ 300 := by
      unfold fitsB at hft
      simp only [Bool.and_eq_true, List.all_eq_true, decide_eq_true_eq] at hft
      exact ⟨by rw [← HLN.out]; exact hft.2, hft.1⟩
    have hn60 := hfl.1
    have HDAT := Lib.hid hfl.2
    clear hft hfl hnl
    go_upto_region 3 with (fail)
    go_wp2_with fail
    refine (at_any n 65533 HMN.out (by decide) w1').mono ?_
    rintro e w2 ⟨v, u, H, rfl, hg, hH, hf, hb⟩
    obtain ⟨cs, rfl, h5, h1⟩ := Rg.form hg
    obtain ⟨ds, rfl, h5p, h1p⟩ := Rf.form hf
    have hb0 : Below w2.heap.size w2 ((w2.alloc (.cells #[.slice none 0 0, .int .u16 0, .int .u16 0, .int .u16 0, .int .u16 0] 29)).alloc (.cells #[.int .i64 0, .slice none 0 0, .slice none 0 0, .slice none 0 0, .int .i64 0] 32)) := ((Below.refl _ _).alloc (Nat.le_refl _) _).alloc (by simp) _
    have hz : w2.heap.size + 2 = ((w2.alloc (.cells #[.slice none 0 0, .int .u16 0, .int .u16 0, .int .u16 0, .int .u16 0] 29)).alloc (.cells #[.int .i64 0, .slice none 0 0, .slice none 0 0, .slice none 0 0, .int .i64 0] 32)).heap.size := by simp
    have hx1 : ((w2.alloc (.cells #[.slice none 0 0, .int .u16 0, .int .u16 0, .int .u16 0, .int .u16 0] 29)).alloc (.cells #[.int .i64 0, .slice none 0 0, .slice none 0 0, .slice none 0 0, .int .i64 0] 32)).heap[w2.heap.size]? = some (.cells #[.slice none 0 0, .int .u16 0, .int .u16 0, .int .u16 0, .int .u16 0] 29 (0, 0)) := old_alloc (heap_alloc_new w2 _) _
    have hx2 : (((w2.alloc (.cells #[.slice none 0 0, .int .u16 0, .int .u16 0, .int .u16 0, .int .u16 0] 29)).alloc (.cells #[.int .i64 0, .slice none 0 0, .slice none 0 0, .slice none 0 0, .int .i64 0] 32)).setRow w2.heap.size cs).heap[w2.heap.size + 1]? = some (.cells #[.int .i64 0, .slice none 0 0, .slice none 0 0, .slice none 0 0, .int .i64 0] 32 (0, 0)) := (setRow_other _ _ _ _ (by omega)).trans (new_at1 w2 _ _)
    have hg2 : Rg w1'.heap.size H (newX n 65533) (((w2.alloc (.cells #[.slice none 0 0, .int .u16 0, .int .u16 0, .int .u16 0, .int .u16 0] 29)).alloc (.cells #[.int .i64 0, .slice none 0 0, .slice none 0 0, .slice none 0 0, .int .i64 0] 32)).setRow w2.heap.size cs) (.agg cs) := (hg.below hb0 hH).stay (Stay.row _ (.inr hH) _)
    have HV : Hid (VarG w2.heap.size w1'.heap.size H (newX n 65533) ((((w2.alloc (.cells #[.slice none 0 0, .int .u16 0, .int .u16 0, .int .u16 0, .int .u16 0] 29)).alloc (.cells #[.int .i64 0, .slice none 0 0, .slice none 0 0, .slice none 0 0, .int .i64 0] 32)).setRow w2.heap.size cs).setRow (w2.heap.size + 1) ds)) := ⟨⟨cs, (setRow_other _ _ _ _ (by omega)).trans (setRow_heap _ _ _ _ _ _ hx1), hg2.stay (Stay.row _ (.inr (by omega)) _)⟩, .inr hH, by simp [World.setRow]; omega⟩
    have HVF : Hid (VarF (w2.heap.size + 1) (newX n 65533) ((((w2.alloc (.cells #[.slice none 0 0, .int .u16 0, .int .u16 0, .int .u16 0, .int .u16 0] 29)).alloc (.cells #[.int .i64 0, .slice none 0 0, .slice none 0 0, .slice none 0 0, .int .i64 0] 32)).setRow w2.heap.size cs).setRow (w2.heap.size + 1) ds)) := ⟨ds, setRow_heap _ _ _ _ _ _ hx2, ((hf.below hb0).other hx1 (by decide) (setRow_cells _ _ _)).other hx2 (by decide) (setRow_cells _ _ _)⟩
    have HBL : Hid (Below w.heap.size w ((((w2.alloc (.cells #[.slice none 0 0, .int .u16 0, .int .u16 0, .int .u16 0, .int .u16 0] 29)).alloc (.cells #[.int .i64 0, .slice none 0 0, .slice none 0 0, .slice none 0 0, .int .i64 0] 32)).setRow w2.heap.size cs).setRow (w2.heap.size + 1) ds)) := below_setRow (below_setRow ((HB1.out.trans (hb.mono HB1.out.size)).trans (hb0.mono (by have := HB1.out.size; have := hb.size; omega))) (by have := HB1.out.size; have := hb.size; omega) _) (by have := HB1.out.size; have := hb.size; omega) _
    have HNP : Hid (w.heap.size ≤ w2.heap.size) := by have := HB1.out.size; have := hb.size; show _ ≤ _; omega
    have HX1 := Lib.hid hx1
    have HX2 := Lib.hid hx2
    have H5 := Lib.hid h5
    have H1 := Lib.hid h1
    have H5p := Lib.hid h5p
    have H1p := Lib.hid h1p
    skip
    clear hg hf hb hb0 hz hx1 hx2 hg2 hH h5 h1 h5p h1p
    go_upto_region 4 with (first | refine wpList_store_row rfl 29 _ _ rfl w2.heap.size cs rfl rfl 29 _ HX1.out (sz_rg H5.out) (H5.out.symm) H1.out ?_ | refine wpList_store_row rfl 32 _ _ rfl (w2.heap.size + 1) ds rfl rfl 32 _ HX2.out (sz_rf H5p.out) (H5p.out.symm) H1p.out ?_)
    generalize (((w2.alloc (.cells #[.slice none 0 0, .int .u16 0, .int .u16 0, .int .u16 0, .int .u16 0] 29)).alloc (.cells #[.int .i64 0, .slice none 0 0, .slice none 0 0, .slice none 0 0, .int .i64 0] 32)).setRow w2.heap.size cs).setRow (w2.heap.size + 1) ds = w3 at HV HVF HBL ⊢
    generalize w2.heap.size = P at HV HVF HNP ⊢
    clear HX1 HX2 H5 H1 H5p H1p
    generalize w1'.heap.size = lo at HV
    have hrel := HV
    clear HV
    clear hsh hq hq5 HB1 HVF
    have HOKX : Hid ((newX n 65533).Ok) := ok_new HMN.out (by decide)
    have HO0 : Hid (Own3 w.heap.size lo H (.slice none 0 0) (.slice none 0 0) (.slice none 0 0) 0 0 0 [] [] [] w3) := ⟨World.ownsRow_nil _ _ _ _, World.ownsRow_nil _ _ _ _, World.ownsRow_nil _ _ _ _, fun k e => (by cases e), fun k e => (by cases e), fun k e => (by cases e), fun k e => (by cases e), fun k e => (by cases e), fun k e => (by cases e)⟩
    have HI0 : Hid (Iv (newX n 65533) [] [] []) := ⟨rfl, rfl⟩
    go_wp2
    go_loopw [42, 7, 8, 9] (fun t42 t7 t8 t9 wr => ∃ (k lo hi a7 c7 a8 c8 a9 c9 : Nat) (A7 A8 A9 : Option Addr) (x : Rn) (pp tt rr : List Fr), k ≤ nl ∧ a7 ≤ k ∧ a8 ≤ k ∧ a9 ≤ k ∧ t42 = .int .i64 (k : Int) ∧ t7 = .slice A7 a7 c7 ∧ t8 = .slice A8 a8 c8 ∧ t9 = .slice A9 a9 c9 ∧ Hid (VarG P lo hi x wr) ∧ Hid (Own3 w.heap.size lo hi (.slice A7 a7 c7) (.slice A8 a8 c8) (.slice A9 a9 c9) a7 a8 a9 pp tt rr wr) ∧ Hid (x.Ok) ∧ Hid (Iv x pp tt rr) ∧ Hid (Below w.heap.size w wr)) (fun t42 _ _ _ _ => nl - (intOf t42).toNat)
    case atStart => exact ⟨0, _, _, 0, 0, 0, 0, 0, 0, none, none, none, _, [], [], [], Nat.zero_le _, Nat.le_refl _, Nat.le_refl _, Nat.le_refl _, rfl, rfl, rfl, rfl, hrel, HO0, HOKX, HI0, HBL⟩
    case round =>
      obtain ⟨k, lo1, hi1, a7, c7, a8, c8, a9, c9, A7, A8, A9, x, pp, tt, rr, hk1, ha7, ha8, ha9, rfl, rfl, rfl, rfl, HV, HO, HR, HI, HBEL⟩ := hrel
      clear HOKX HO0 HI0 HBL
      by_cases hlt : k < nl
      · obtain ⟨o, ho⟩ : ∃ o, l[k]? = some o := ⟨_, List.getElem?_eq_getElem (by rw [HLN.out]; exact hlt)⟩
        obtain ⟨ad, A', cc, rfl, -, hcs, hrd, hAn, hdc, hcc, hik⟩ := (HOPS.out k o ho).below HBEL.out (Nat.le_refl _)
        have HEL := Lib.hid hcs
        have HAN := Lib.hid hAn
        have HDL : Hid (o.data.length ≤ 300) := HDAT.out o (List.mem_of_getElem? ho)
        have hba := (Below.refl wr.heap.size wr).alloc (Nat.le_refl _) (.cells #[.int .i64 o.kind, .slice A' o.data.length cc] 37)
        have HV1 := Lib.hid (HV.out.below hba)
        have HO1 := Lib.hid (HO.out.below hba)
        have HY0 := Lib.hid (heap_alloc_new wr (.cells #[.int .i64 o.kind, .slice A' o.data.length cc] 37))
        have HBW := Lib.hid (HBEL.out.trans (hba.mono HBEL.out.size))
        have HRD := Lib.hid (hrd.below hba HBEL.out.size)
        have HRDL : Hid (w.heap.size ≤ (wr.alloc (.cells #[.int .i64 o.kind, .slice A' o.data.length cc] 37)).heap.size) := HBW.out.size
        unfold opC at HEL
        obtain ⟨r, hr8, hr9⟩ := u64_rem o.kind 5 (by decide) (by decide)
        change (IntKind.u64.wrap o.kind).tmod 5 = (r : Int) at hr8
        clear hcs hrd hAn hdc hcc ho hik hba HV HO HOPS
        go_upto_region 8 with (first | refine wpList_load_at rfl 37 _ rfl (ad.add (k * 2)) rfl [.int .i64 o.kind, .slice A' o.data.length cc] _ HEL.out Try.underlying37 rfl (by kernel_rfl) ?_)
        generalize wr.alloc (.cells #[.int .i64 o.kind, .slice A' o.data.length cc] 37) = wa at HV1 HO1 HY0 HBW HRD HRDL ⊢
        have HV := HV1
        have HO := HO1
        generalize wr.heap.size = b5 at HY0 ⊢
        clear HEL HV1 HO1
        obtain ⟨f0, f1⟩ := two_cells HY0.out
        have hr : r = 0 ∨ r = 1 ∨ r = 2 ∨ r = 3 ∨ r = 4 := by omega
        clear hr9
        rcases hr with rfl | rfl | rfl | rfl | rfl
        · obtain ⟨⟨cs, hcs, hg⟩, hout, hle⟩ := HV.out
          obtain ⟨cs', hcv, h5, h1⟩ := Rg.form hg
          injection hcv with hcv
          subst hcv
          have HCS := Lib.hid hcs
          have H5 := Lib.hid h5
          have HPW : Hid (P < wa.heap.size) := row_lt hcs
          have HPS := Lib.hid (rg_post hg HR.out hle A' cc 0 w.heap.size o.data HRD.out HRDL.out HAN.out (by have := HDL.out; omega))
          have hrn := ok_post HR.out o.data
          have hiv := inv_post HI.out o.data
          obtain ⟨xn, er, hpx⟩ : ∃ xn er, postX x o.data = (xn, er) := ⟨_, _, rfl⟩
          rw [hpx] at HPS hrn hiv
          have HRN := Lib.hid hrn
          have HIV := Lib.hid hiv
          have HY2 := HY0
          clear hcs hg h1 h5 hle hpx hrn hiv
          go_wp2_with (refine wpList_load_row rfl 29 _ rfl P rfl 29 cs (0, 0) _ HCS.out Try.underlying29 rfl (sz_rg H5.out) ?_)
          clear f0 f1
          refine HPS.out.mono ?_
          rintro e wb ⟨v, rfl, hg, hb⟩
          have hH := Nat.le_refl wb.heap.size
          clear HPS
          obtain ⟨ds, rfl, h5, h1⟩ := Rg.form hg
          have hba2 := (Below.refl wb.heap.size wb).alloc (Nat.le_refl _) (.cells ds 29)
          have hx0 := old_below HCS.out hb (row_lt HCS.out)
          have hx := old_alloc hx0 (.cells ds 29)
          have hy := heap_alloc_new wb (.cells ds 29)
          have hg2 := hg.below hba2 hH
          have HV2 := Lib.hid (varg_set hg2 (Nat.le_trans hH hba2.size) hx (.inl (row_lt HCS.out)))
          have HB2 : Hid (Below w.heap.size w ((wb.alloc (.cells ds 29)).setRow P ds)) := below_setRow ((HBW.out.trans (hb.mono HBW.out.size)).alloc (by have := HBW.out.size; have := hb.size; omega) _) HNP.out _
          have HO2 := Lib.hid (((HO.out.ring hb (hi' := wb.heap.size)).below hba2).other hx (by decide) (setRow_cells _ P ds))
          have hdw := hb.alloc hb.size (.cells ds 29)
          have HYZ := Lib.hid ((setRow_other _ P b5 ds (by rintro rfl; have := HCS.out; rw [HY0.out] at this; simp at this)).trans (old_below HY0.out hdw (row_lt HY0.out)))
          have HRZ := Lib.hid ((HRD.out.below hdw HRDL.out).setRow (g := P) (.inr HNP.out) ds)
          clear hdw
          have HX := Lib.hid hx
          have HY := Lib.hid hy
          have HSO := H5
          have H5 := Lib.hid h5
          have H1 := Lib.hid h1
          have hzs : (#[.slice none 0 0, .int .u16 0, .int .u16 0, .int .u16 0, .int .u16 0] : Array Value).size = ds.size := h5.symm
          clear hg hg2 hb hx hx0 hy h5 h1 hH hba2
          go_upto_region 16 with (refine wpList_store_new rfl 29 _ _ rfl wb #[.slice none 0 0, .int .u16 0, .int .u16 0, .int .u16 0, .int .u16 0] ds rfl rfl (sz_rg H5.out) (hzs) H1.out ?_)
          go_upto_region 17 with (first | refine wpList_load_row rfl 29 _ rfl wb.heap.size rfl 29 ds (0, 0) _ HY.out Try.underlying29 rfl (sz_rg H5.out) ?_ | refine wpList_store_row rfl 29 _ _ rfl P ds rfl rfl 29 _ HX.out (sz_rg H5.out) (HSO.out.trans H5.out.symm) H1.out ?_)
          generalize ((wb.alloc (.cells ds 29)).setRow P ds) = wz at HV2 HB2 HO2 HYZ HRZ ⊢
          clear HX HY H5 H1 HSO HCS hzs hout
          by_cases her : er = 0
          · subst her
            have hcv : (convert 35 9 (.slice A' o.data.length cc)).run Try.prog wz = .ok (txt o.data) wz := run_text (P := Try.prog) wz 35 9 5 (l := o.data) cc Try.underlying35 Try.underlying5 Try.underlying9 HRZ.out
            have hiv := HIV.out
            rw [if_pos rfl] at hiv
            have HIV2 := Lib.hid hiv
            obtain ⟨f0, f1⟩ := two_cells HYZ.out
            clear HIV hiv HRZ HYZ HRD HRDL HV HO HY0 HY2
            have HOR := Lib.hid HO2.out
            have HOA := Lib.hid (HOR.out.below ((Below.refl wz.heap.size wz).alloc (Nat.le_refl _) (.cells #[txt o.data] 9)))
            have HVA := Lib.hid (HV2.out.below ((Below.refl wz.heap.size wz).alloc (Nat.le_refl _) (.cells #[txt o.data] 9)))
            have HBA : Hid (Below w.heap.size w (wz.alloc (.cells #[txt o.data] 9))) := HB2.out.alloc HB2.out.size _
            have HRN : Hid (Rd (wz.alloc (.cells #[txt o.data] 9)) wz.heap.size (wz.heap.size + 1) (some ⟨wz.heap.size, 0, none⟩) [txt o.data]) := rd_new wz [txt o.data] 9 (0, 0)
            have HWZ : Hid (w.heap.size ≤ wz.heap.size) := HB2.out.size
            go_wp2_with (at_builtin; refine wpList_append_rdk (P := Try.prog) rfl _ _ 30 rfl w.heap.size 9 i0 _ 1 16 Try.underlying30 hi0 hz0 hz1 hz2 hz3 (by omega) (.slice A7 a7 c7) a7 (strs pp) rfl HOA.out.oa (some ⟨wz.heap.size, 0, none⟩) 1 1 [txt o.data] rfl (fun h => by cases h) rfl HRN.out (by intro u hu; simp at hu; subst hu; rfl) (by unfold maxLen; omega) (by omega) (by have := HWZ.out; simp; omega) ?_; intro v3 w3 hown3 hgrow3 hd3)
            have HV3 := Lib.hid (HVA.out.grownST HOA.out.oa hgrow3 HOA.out.wa)
            have HO3 := Lib.hid (HOA.out.app hown3 hgrow3 hd3 HVA.out.le)
            have HB3 : Hid (Below w.heap.size w w3) := HBA.out.grown hgrow3 HBA.out.size fun g hg => (HOA.out.oa.lt g hg).1
            obtain ⟨A3', c3', rfl, -⟩ := ownk_form hown3
            clear hown3 hgrow3 hd3 hcv HOR HOA HVA HBA HRN HWZ HV2 HB2 HO2
            go_wp2
            go_roundw
            case rel => exact ⟨k + 1, _, _, _, _, _, _, _, _, _, _, _, xn, _, _, _, by omega, by omega, by omega, by omega, by go_num, rfl, rfl, rfl, HV3, HO3, HRN, HIV2, HB3⟩
            case measure => simp [intOf]; omega
          · have hiv := HIV.out
            rw [if_neg her] at hiv
            have HIV2 := Lib.hid hiv
            have her2 : ¬ (er : Int) = 0 := by omega
            clear HIV hiv HRZ HYZ HRD HRDL HV HO HY0 HY2
            go_wp2
            go_roundw
            case rel => exact ⟨k + 1, _, _, _, _, _, _, _, _, _, _, _, xn, _, _, _, by omega, by omega, by omega, by omega, by go_num, rfl, rfl, rfl, HV2, HO2, HRN, HIV2, HB2⟩
            case measure => simp [intOf]; omega
        · obtain ⟨⟨cs, hcs, hg⟩, hout, hle⟩ := HV.out
          obtain ⟨cs', hcv, h5, h1⟩ := Rg.form hg
          injection hcv with hcv
          subst hcv
          have HCS := Lib.hid hcs
          have H5 := Lib.hid h5
          have HPW : Hid (P < wa.heap.size) := row_lt hcs
          have HPS := Lib.hid (rg_post hg HR.out hle A' cc 0 w.heap.size o.data HRD.out HRDL.out HAN.out (by have := HDL.out; omega))
          have hrn := ok_post HR.out o.data
          have hiv := inv_post HI.out o.data
          obtain ⟨xn, er, hpx⟩ : ∃ xn er, postX x o.data = (xn, er) := ⟨_, _, rfl⟩
          rw [hpx] at HPS hrn hiv
          have HRN := Lib.hid hrn
          have HIV := Lib.hid hiv
          have HY2 := HY0
          clear hcs hg h1 h5 hle hpx hrn hiv
          go_wp2_with (refine wpList_load_row rfl 29 _ rfl P rfl 29 cs (0, 0) _ HCS.out Try.underlying29 rfl (sz_rg H5.out) ?_)
          clear f0 f1
          refine HPS.out.mono ?_
          rintro e wb ⟨v, rfl, hg, hb⟩
          have hH := Nat.le_refl wb.heap.size
          clear HPS
          obtain ⟨ds, rfl, h5, h1⟩ := Rg.form hg
          have hba2 := (Below.refl wb.heap.size wb).alloc (Nat.le_refl _) (.cells ds 29)
          have hx0 := old_below HCS.out hb (row_lt HCS.out)
          have hx := old_alloc hx0 (.cells ds 29)
          have hy := heap_alloc_new wb (.cells ds 29)
          have hg2 := hg.below hba2 hH
          have HV2 := Lib.hid (varg_set hg2 (Nat.le_trans hH hba2.size) hx (.inl (row_lt HCS.out)))
          have HB2 : Hid (Below w.heap.size w ((wb.alloc (.cells ds 29)).setRow P ds)) := below_setRow ((HBW.out.trans (hb.mono HBW.out.size)).alloc (by have := HBW.out.size; have := hb.size; omega) _) HNP.out _
          have HO2 := Lib.hid (((HO.out.ring hb (hi' := wb.heap.size)).below hba2).other hx (by decide) (setRow_cells _ P ds))
          have hdw := hb.alloc hb.size (.cells ds 29)
          have HYZ := Lib.hid ((setRow_other _ P b5 ds (by rintro rfl; have := HCS.out; rw [HY0.out] at this; simp at this)).trans (old_below HY0.out hdw (row_lt HY0.out)))
          have HRZ := Lib.hid ((HRD.out.below hdw HRDL.out).setRow (g := P) (.inr HNP.out) ds)
          clear hdw
          have HX := Lib.hid hx
          have HY := Lib.hid hy
          have HSO := H5
          have H5 := Lib.hid h5
          have H1 := Lib.hid h1
          have hzs : (#[.slice none 0 0, .int .u16 0, .int .u16 0, .int .u16 0, .int .u16 0] : Array Value).size = ds.size := h5.symm
          clear hg hg2 hb hx hx0 hy h5 h1 hH hba2
          go_upto_region 16 with (refine wpList_store_new rfl 29 _ _ rfl wb #[.slice none 0 0, .int .u16 0, .int .u16 0, .int .u16 0, .int .u16 0] ds rfl rfl (sz_rg H5.out) (hzs) H1.out ?_)
          go_upto_region 17 with (first | refine wpList_load_row rfl 29 _ rfl wb.heap.size rfl 29 ds (0, 0) _ HY.out Try.underlying29 rfl (sz_rg H5.out) ?_ | refine wpList_store_row rfl 29 _ _ rfl P ds rfl rfl 29 _ HX.out (sz_rg H5.out) (HSO.out.trans H5.out.symm) H1.out ?_)
          generalize ((wb.alloc (.cells ds 29)).setRow P ds) = wz at HV2 HB2 HO2 HYZ HRZ ⊢
          clear HX HY H5 H1 HSO HCS hzs hout
          by_cases her : er = 0
          · subst her
            have hcv : (convert 35 9 (.slice A' o.data.length cc)).run Try.prog wz = .ok (txt o.data) wz := run_text (P := Try.prog) wz 35 9 5 (l := o.data) cc Try.underlying35 Try.underlying5 Try.underlying9 HRZ.out
            have hiv := HIV.out
            rw [if_pos rfl] at hiv
            have HIV2 := Lib.hid hiv
            obtain ⟨f0, f1⟩ := two_cells HYZ.out
            clear HIV hiv HRZ HYZ HRD HRDL HV HO HY0 HY2
            have HOR := Lib.hid HO2.out
            have HOA := Lib.hid (HOR.out.below ((Below.refl wz.heap.size wz).alloc (Nat.le_refl _) (.cells #[txt o.data] 9)))
            have HVA := Lib.hid (HV2.out.below ((Below.refl wz.heap.size wz).alloc (Nat.le_refl _) (.cells #[txt o.data] 9)))
            have HBA : Hid (Below w.heap.size w (wz.alloc (.cells #[txt o.data] 9))) := HB2.out.alloc HB2.out.size _
            have HRN : Hid (Rd (wz.alloc (.cells #[txt o.data] 9)) wz.heap.size (wz.heap.size + 1) (some ⟨wz.heap.size, 0, none⟩) [txt o.data]) := rd_new wz [txt o.data] 9 (0, 0)
            have HWZ : Hid (w.heap.size ≤ wz.heap.size) := HB2.out.size
            go_wp2_with (at_builtin; refine wpList_append_rdk (P := Try.prog) rfl _ _ 30 rfl w.heap.size 9 i0 _ 1 16 Try.underlying30 hi0 hz0 hz1 hz2 hz3 (by omega) (.slice A7 a7 c7) a7 (strs pp) rfl HOA.out.oa (some ⟨wz.heap.size, 0, none⟩) 1 1 [txt o.data] rfl (fun h => by cases h) rfl HRN.out (by intro u hu; simp at hu; subst hu; rfl) (by unfold maxLen; omega) (by omega) (by have := HWZ.out; simp; omega) ?_; intro v3 w3 hown3 hgrow3 hd3)
            have HV3 := Lib.hid (HVA.out.grownST HOA.out.oa hgrow3 HOA.out.wa)
            have HO3 := Lib.hid (HOA.out.app hown3 hgrow3 hd3 HVA.out.le)
            have HB3 : Hid (Below w.heap.size w w3) := HBA.out.grown hgrow3 HBA.out.size fun g hg => (HOA.out.oa.lt g hg).1
            obtain ⟨A3', c3', rfl, -⟩ := ownk_form hown3
            clear hown3 hgrow3 hd3 hcv HOR HOA HVA HBA HRN HWZ HV2 HB2 HO2
            go_wp2
            go_roundw
            case rel => exact ⟨k + 1, _, _, _, _, _, _, _, _, _, _, _, xn, _, _, _, by omega, by omega, by omega, by omega, by go_num, rfl, rfl, rfl, HV3, HO3, HRN, HIV2, HB3⟩
            case measure => simp [intOf]; omega
          · have hiv := HIV.out
            rw [if_neg her] at hiv
            have HIV2 := Lib.hid hiv
            have her2 : ¬ (er : Int) = 0 := by omega
            clear HIV hiv HRZ HYZ HRD HRDL HV HO HY0 HY2
            go_wp2
            go_roundw
            case rel => exact ⟨k + 1, _, _, _, _, _, _, _, _, _, _, _, xn, _, _, _, by omega, by omega, by omega, by omega, by go_num, rfl, rfl, rfl, HV2, HO2, HRN, HIV2, HB2⟩
            case measure => simp [intOf]; omega
        · obtain ⟨⟨cs, hcs, hg⟩, hout, hle⟩ := HV.out
          obtain ⟨cs', hcv, h5, h1⟩ := Rg.form hg
          injection hcv with hcv
          subst hcv
          have HCS := Lib.hid hcs
          have H5 := Lib.hid h5
          have HPW : Hid (P < wa.heap.size) := row_lt hcs
          have hrt := rg_take hg HR.out hle
          have hrn := ok_take HR.out
          have hiv := inv_take HI.out
          obtain ⟨xn, tf, er, hpx⟩ : ∃ xn tf er, takeX x = (xn, tf, er) := ⟨_, _, _, rfl⟩
          rw [hpx] at hrt hrn hiv
          have HPS := Lib.hid hrt
          have HRN := Lib.hid hrn
          have HIV := Lib.hid hiv
          clear hcs hg h1 h5 hle hpx hrn hiv hrt
          go_wp2_with (refine wpList_load_row rfl 29 _ rfl P rfl 29 cs (0, 0) _ HCS.out Try.underlying29 rfl (sz_rg H5.out) ?_)
          clear f0 f1
          refine HPS.out.mono ?_
          rintro e wb ⟨v, u, H9, rfl, hg, hH, hu, hb⟩
          obtain ⟨Au, cu, rfl, -⟩ := ownk_form hu
          clear HPS
          obtain ⟨ds, rfl, h5, h1⟩ := Rg.form hg
          have hba2 := (Below.refl wb.heap.size wb).alloc (Nat.le_refl _) (.cells ds 29)
          have hx0 := old_below HCS.out hb (row_lt HCS.out)
          have hx := old_alloc hx0 (.cells ds 29)
          have hy := heap_alloc_new wb (.cells ds 29)
          have hg2 := hg.below hba2 hH
          have HV2 := Lib.hid (varg_set hg2 (Nat.le_trans hH hba2.size) hx (.inl (row_lt HCS.out)))
          have HB2 : Hid (Below w.heap.size w ((wb.alloc (.cells ds 29)).setRow P ds)) := below_setRow ((HBW.out.trans (hb.mono HBW.out.size)).alloc (by have := HBW.out.size; have := hb.size; omega) _) HNP.out _
          have HO2 := Lib.hid (((HO.out.ring hb (hi' := H9)).below hba2).other hx (by decide) (setRow_cells _ P ds))
          have HUZ := Lib.hid (ownk_other (ownk_below hu hba2 (Nat.le_refl _)) hx (by decide) (setRow_cells _ P ds))
          clear hu
          have HX := Lib.hid hx
          have HY := Lib.hid hy
          have HSO := H5
          have H5 := Lib.hid h5
          have H1 := Lib.hid h1
          have hzs : (#[.slice none 0 0, .int .u16 0, .int .u16 0, .int .u16 0, .int .u16 0] : Array Value).size = ds.size := h5.symm
          clear hg hg2 hb hx hx0 hy h5 h1 hH hba2
          go_upto_region 21 with (refine wpList_store_new rfl 29 _ _ rfl wb #[.slice none 0 0, .int .u16 0, .int .u16 0, .int .u16 0, .int .u16 0] ds rfl rfl (sz_rg H5.out) (hzs) H1.out ?_)
          go_upto_region 22 with (first | refine wpList_load_row rfl 29 _ rfl wb.heap.size rfl 29 ds (0, 0) _ HY.out Try.underlying29 rfl (sz_rg H5.out) ?_ | refine wpList_store_row rfl 29 _ _ rfl P ds rfl rfl 29 _ HX.out (sz_rg H5.out) (HSO.out.trans H5.out.symm) H1.out ?_)
          generalize ((wb.alloc (.cells ds 29)).setRow P ds) = wz at HV2 HB2 HO2 HUZ ⊢
          clear HX HY H5 H1 HSO HCS hzs hout
          by_cases her : er = 0
          · subst her
            have hcv : (convert 35 9 (.slice Au tf.length cu)).run Try.prog wz = .ok (txt tf) wz := run_text (P := Try.prog) wz 35 9 5 (l := tf) cu Try.underlying35 Try.underlying5 Try.underlying9 (ownk_rd HUZ.out)
            have hiv := HIV.out
            rw [if_pos rfl] at hiv
            have HIV2 := Lib.hid hiv
            clear HIV hiv HUZ HRD HRDL HV HO HY0
            have HOR := Lib.hid HO2.out.rot
            have HOA := Lib.hid (HOR.out.below ((Below.refl wz.heap.size wz).alloc (Nat.le_refl _) (.cells #[txt tf] 9)))
            have HVA := Lib.hid (HV2.out.below ((Below.refl wz.heap.size wz).alloc (Nat.le_refl _) (.cells #[txt tf] 9)))
            have HBA : Hid (Below w.heap.size w (wz.alloc (.cells #[txt tf] 9))) := HB2.out.alloc HB2.out.size _
            have HRN : Hid (Rd (wz.alloc (.cells #[txt tf] 9)) wz.heap.size (wz.heap.size + 1) (some ⟨wz.heap.size, 0, none⟩) [txt tf]) := rd_new wz [txt tf] 9 (0, 0)
            have HWZ : Hid (w.heap.size ≤ wz.heap.size) := HB2.out.size
            go_wp2_with (at_builtin; refine wpList_append_rdk (P := Try.prog) rfl _ _ 30 rfl w.heap.size 9 i0 _ 1 16 Try.underlying30 hi0 hz0 hz1 hz2 hz3 (by omega) (.slice A8 a8 c8) a8 (strs tt) rfl HOA.out.oa (some ⟨wz.heap.size, 0, none⟩) 1 1 [txt tf] rfl (fun h => by cases h) rfl HRN.out (by intro u hu; simp at hu; subst hu; rfl) (by unfold maxLen; omega) (by omega) (by have := HWZ.out; simp; omega) ?_; intro v3 w3 hown3 hgrow3 hd3)
            have HV3 := Lib.hid (HVA.out.grownST HOA.out.oa hgrow3 HOA.out.wa)
            have HO3 := Lib.hid (HOA.out.app hown3 hgrow3 hd3 HVA.out.le)
            have HB3 : Hid (Below w.heap.size w w3) := HBA.out.grown hgrow3 HBA.out.size fun g hg => (HOA.out.oa.lt g hg).1
            obtain ⟨A3', c3', rfl, -⟩ := ownk_form hown3
            clear hown3 hgrow3 hd3 hcv HOR HOA HVA HBA HRN HWZ HV2 HB2 HO2
            go_wp2
            go_roundw
            case rel => exact ⟨k + 1, _, _, _, _, _, _, _, _, _, _, _, xn, _, _, _, by omega, by omega, by omega, by omega, by go_num, rfl, rfl, rfl, HV3, Lib.hid HO3.out.rot.rot, HRN, HIV2, HB3⟩
            case measure => simp [intOf]; omega
          · have hiv := HIV.out
            rw [if_neg her] at hiv
            have HIV2 := Lib.hid hiv
            have her2 : ¬ (er : Int) = 0 := by omega
            clear HIV hiv HUZ HRD HRDL HV HO HY0
            go_wp2
            go_roundw
            case rel => exact ⟨k + 1, _, _, _, _, _, _, _, _, _, _, _, xn, _, _, _, by omega, by omega, by omega, by omega, by go_num, rfl, rfl, rfl, HV2, HO2, HRN, HIV2, HB2⟩
            case measure => simp [intOf]; omega
        · obtain ⟨⟨cs, hcs, hg⟩, hout, hle⟩ := HV.out
          obtain ⟨cs', hcv, h5, h1⟩ := Rg.form hg
          injection hcv with hcv
          subst hcv
          have HCS := Lib.hid hcs
          have H5 := Lib.hid h5
          have HPW : Hid (P < wa.heap.size) := row_lt hcs
          have HPS := Lib.hid (rg_fin hg HR.out hle)
          have HRN := Lib.hid (ok_fin HR.out)
          have HIV2 := Lib.hid (inv_fin HI.out)
          clear hcs hg h1 h5 hle
          go_wp2_with (refine wpList_load_row rfl 29 _ rfl P rfl 29 cs (0, 0) _ HCS.out Try.underlying29 rfl (sz_rg H5.out) ?_)
          clear f0 f1
          refine HPS.out.mono ?_
          rintro e wb ⟨v, rfl, hg, hb⟩
          have hH := Nat.le_refl wb.heap.size
          clear HPS
          obtain ⟨ds, rfl, h5, h1⟩ := Rg.form hg
          have hx := old_below HCS.out hb (row_lt HCS.out)
          have HV2 := Lib.hid (varg_set hg hH hx (.inl (row_lt HCS.out)))
          have HB2 : Hid (Below w.heap.size w (wb.setRow P ds)) := below_setRow (HBW.out.trans (hb.mono HBW.out.size)) HNP.out _
          have HO2 := Lib.hid ((HO.out.ring hb (hi' := wb.heap.size)).other hx (by decide) (setRow_cells _ P ds))
          have HX := Lib.hid hx
          have HSO := H5
          have H5 := Lib.hid h5
          have H1 := Lib.hid h1
          clear hg hb hx h5 h1 hH
          go_upto_region 26 with (refine wpList_store_row rfl 29 _ _ rfl P ds rfl rfl 29 _ HX.out (sz_rg H5.out) (HSO.out.trans H5.out.symm) H1.out ?_)
          generalize (wb.setRow P ds) = wz at HV2 HB2 HO2 ⊢
          clear HX H5 H1 HSO HCS hout
          clear HRD HRDL HV HO HY0
          go_wp2
          go_roundw
          case rel => exact ⟨k + 1, _, _, _, _, _, _, _, _, _, _, _, _, _, _, _, by omega, by omega, by omega, by omega, by go_num, rfl, rfl, rfl, HV2, HO2, HRN, HIV2, HB2⟩
          case measure => simp [intOf]; omega
        · obtain ⟨⟨cs, hcs, hg⟩, hout, hle⟩ := HV.out
          obtain ⟨cs', hcv, h5, h1⟩ := Rg.form hg
          injection hcv with hcv
          subst hcv
          have HCS := Lib.hid hcs
          have H5 := Lib.hid h5
          have HPW : Hid (P < wa.heap.size) := row_lt hcs
          have hrt := rg_reap hg HR.out hle
          have hrn := ok_reap HR.out
          have hiv := inv_reap HI.out
          obtain ⟨xn, tf, er, hpx⟩ : ∃ xn tf er, reapX x = (xn, tf, er) := ⟨_, _, _, rfl⟩
          rw [hpx] at hrt hrn hiv
          have HPS := Lib.hid hrt
          have HRN := Lib.hid hrn
          have HIV := Lib.hid hiv
          clear hcs hg h1 h5 hle hpx hrn hiv hrt
          go_wp2_with (refine wpList_load_row rfl 29 _ rfl P rfl 29 cs (0, 0) _ HCS.out Try.underlying29 rfl (sz_rg H5.out) ?_)
          clear f0 f1
          refine HPS.out.mono ?_
          rintro e wb ⟨v, u, rfl, hg, hu, hb⟩
          obtain ⟨Au, cu, rfl, hru, -⟩ := hu
          have hH := Nat.le_refl wb.heap.size
          clear HPS
          obtain ⟨ds, rfl, h5, h1⟩ := Rg.form hg
          have hba2 := (Below.refl wb.heap.size wb).alloc (Nat.le_refl _) (.cells ds 29)
          have hx0 := old_below HCS.out hb (row_lt HCS.out)
          have hx := old_alloc hx0 (.cells ds 29)
          have hy := heap_alloc_new wb (.cells ds 29)
          have hg2 := hg.below hba2 hH
          have HV2 := Lib.hid (varg_set hg2 (Nat.le_trans hH hba2.size) hx (.inl (row_lt HCS.out)))
          have HB2 : Hid (Below w.heap.size w ((wb.alloc (.cells ds 29)).setRow P ds)) := below_setRow ((HBW.out.trans (hb.mono HBW.out.size)).alloc (by have := HBW.out.size; have := hb.size; omega) _) HNP.out _
          have HO2 := Lib.hid (((HO.out.ring hb (hi' := wb.heap.size)).below hba2).other hx (by decide) (setRow_cells _ P ds))
          have HUZ := Lib.hid ((hru.below hba2 (Nat.le_refl _)).setRow (g := P) (.inl HPW.out) ds)
          clear hru
          have HX := Lib.hid hx
          have HY := Lib.hid hy
          have HSO := H5
          have H5 := Lib.hid h5
          have H1 := Lib.hid h1
          have hzs : (#[.slice none 0 0, .int .u16 0, .int .u16 0, .int .u16 0, .int .u16 0] : Array Value).size = ds.size := h5.symm
          clear hg hg2 hb hx hx0 hy h5 h1 hH hba2
          go_upto_region 10 with (refine wpList_store_new rfl 29 _ _ rfl wb #[.slice none 0 0, .int .u16 0, .int .u16 0, .int .u16 0, .int .u16 0] ds rfl rfl (sz_rg H5.out) (hzs) H1.out ?_)
          go_upto_region 11 with (first | refine wpList_load_row rfl 29 _ rfl wb.heap.size rfl 29 ds (0, 0) _ HY.out Try.underlying29 rfl (sz_rg H5.out) ?_ | refine wpList_store_row rfl 29 _ _ rfl P ds rfl rfl 29 _ HX.out (sz_rg H5.out) (HSO.out.trans H5.out.symm) H1.out ?_)
          generalize ((wb.alloc (.cells ds 29)).setRow P ds) = wz at HV2 HB2 HO2 HUZ ⊢
          clear HX HY H5 H1 HSO HCS hzs hout
          by_cases her : er = 0
          · subst her
            have hcv : (convert 35 9 (.slice Au tf.length cu)).run Try.prog wz = .ok (txt tf) wz := run_text (P := Try.prog) wz 35 9 5 (l := tf) cu Try.underlying35 Try.underlying5 Try.underlying9 (HUZ.out)
            have hiv := HIV.out
            rw [if_pos rfl] at hiv
            have HIV2 := Lib.hid hiv
            clear HIV hiv HUZ HRD HRDL HV HO HY0
            have HOR := Lib.hid HO2.out.rot.rot
            have HOA := Lib.hid (HOR.out.below ((Below.refl wz.heap.size wz).alloc (Nat.le_refl _) (.cells #[txt tf] 9)))
            have HVA := Lib.hid (HV2.out.below ((Below.refl wz.heap.size wz).alloc (Nat.le_refl _) (.cells #[txt tf] 9)))
            have HBA : Hid (Below w.heap.size w (wz.alloc (.cells #[txt tf] 9))) := HB2.out.alloc HB2.out.size _
            have HRN : Hid (Rd (wz.alloc (.cells #[txt tf] 9)) wz.heap.size (wz.heap.size + 1) (some ⟨wz.heap.size, 0, none⟩) [txt tf]) := rd_new wz [txt tf] 9 (0, 0)
            have HWZ : Hid (w.heap.size ≤ wz.heap.size) := HB2.out.size
            go_wp2_with (at_builtin; refine wpList_append_rdk (P := Try.prog) rfl _ _ 30 rfl w.heap.size 9 i0 _ 1 16 Try.underlying30 hi0 hz0 hz1 hz2 hz3 (by omega) (.slice A9 a9 c9) a9 (strs rr) rfl HOA.out.oa (some ⟨wz.heap.size, 0, none⟩) 1 1 [txt tf] rfl (fun h => by cases h) rfl HRN.out (by intro u hu; simp at hu; subst hu; rfl) (by unfold maxLen; omega) (by omega) (by have := HWZ.out; simp; omega) ?_; intro v3 w3 hown3 hgrow3 hd3)
            have HV3 := Lib.hid (HVA.out.grownST HOA.out.oa hgrow3 HOA.out.wa)
            have HO3 := Lib.hid (HOA.out.app hown3 hgrow3 hd3 HVA.out.le)
            have HB3 : Hid (Below w.heap.size w w3) := HBA.out.grown hgrow3 HBA.out.size fun g hg => (HOA.out.oa.lt g hg).1
            obtain ⟨A3', c3', rfl, -⟩ := ownk_form hown3
            clear hown3 hgrow3 hd3 hcv HOR HOA HVA HBA HRN HWZ HV2 HB2 HO2
            go_wp2
            go_roundw
            case rel => exact ⟨k + 1, _, _, _, _, _, _, _, _, _, _, _, xn, _, _, _, by omega, by omega, by omega, by omega, by go_num, rfl, rfl, rfl, HV3, Lib.hid HO3.out.rot, HRN, HIV2, HB3⟩
            case measure => simp [intOf]; omega
          · have hiv := HIV.out
            rw [if_neg her] at hiv
            have HIV2 := Lib.hid hiv
            have her2 : ¬ (er : Int) = 0 := by omega
            clear HIV hiv HUZ HRD HRDL HV HO HY0
            go_wp2
            go_roundw
            case rel => exact ⟨k + 1, _, _, _, _, _, _, _, _, _, _, _, xn, _, _, _, by omega, by omega, by omega, by omega, by go_num, rfl, rfl, rfl, HV2, HO2, HRN, HIV2, HB2⟩
            case measure => simp [intOf]; omega
      · have hke : ¬ (k : Int) < (nl : Int) := by omega
        obtain ⟨⟨cs, hcs, hg⟩, hout, hle⟩ := HV.out
        obtain ⟨cs', hcv, h5, h1⟩ := Rg.form hg
        injection hcv with hcv
        subst hcv
        have HCS := Lib.hid hcs
        have H5 := Lib.hid h5
        have HPS := Lib.hid (rg_quiet hg HR.out hle)
        clear hcs hg h1 h5 hle HV
        go_wp2_with (refine wpList_load_row rfl 29 _ rfl P rfl 29 cs (0, 0) _ HCS.out Try.underlying29 rfl (sz_rg H5.out) ?_)
        refine HPS.out.mono ?_
        rintro e wb ⟨v, u, us, rfl, hg, hu, hfr, hb⟩
        obtain ⟨ds, rfl, h5, h1⟩ := Rg.form hg
        obtain ⟨Ab, cb, rfl, -⟩ := ownk_form hu
        have hba2 := (Below.refl wb.heap.size wb).alloc (Nat.le_refl _) (.cells ds 29)
        have HBZ : Hid (Below w.heap.size w (wb.alloc (.cells ds 29))) := (HBEL.out.trans (hb.mono HBEL.out.size)).alloc (by have := HBEL.out.size; have := hb.size; omega) _
        have HO2 := Lib.hid ((HO.out.below hb).below hba2)
        have HU2 := Lib.hid (ownk_below hu hba2 (Nat.le_refl _))
        have HF2 := Lib.hid (hfr.stay (Stay.of hba2 (Nat.le_refl _)))
        have H5 := Lib.hid h5
        have H1 := Lib.hid h1
        have hzs : (#[.slice none 0 0, .int .u16 0, .int .u16 0, .int .u16 0, .int .u16 0] : Array Value).size = ds.size := h5.symm
        clear hg hb h5 h1 hba2 hu hfr HPS
        go_upto_region 28 with (refine wpList_store_new rfl 29 _ _ rfl wb #[.slice none 0 0, .int .u16 0, .int .u16 0, .int .u16 0, .int .u16 0] ds rfl rfl (sz_rg H5.out) (hzs) H1.out ?_)
        generalize wb.alloc (.cells ds 29) = wz at HBZ HO2 HU2 HF2 ⊢
        clear HCS H5 H1 hzs hout HO
        obtain ⟨L, hL⟩ : ∃ L, x.P.length = L := ⟨_, rfl⟩
        rw [hL] at HU2 ⊢
        have hp7 : pp.length = a7 := by have := HO2.out.oa.1; rwa [strs_length, Nat.mul_one] at this
        have hp8 : tt.length = a8 := by have := HO2.out.ob.1; rwa [strs_length, Nat.mul_one] at this
        have hp9 : rr.length = a9 := by have := HO2.out.oc.1; rwa [strs_length, Nat.mul_one] at this
        have hi1' := HI.out.1
        have hi2' := HI.out.2
        have hpt : pp = tt ++ x.P := by rw [hi1', hi2']
        have htr : ∃ s, tt = rr ++ s := ⟨x.D ++ x.T, by rw [hi2', List.append_assoc]⟩
        have e78 : a8 + L = a7 := by rw [← hp7, ← hp8, ← hL, hpt, List.length_append]
        have e98 : a9 ≤ a8 := by obtain ⟨s, hs⟩ := htr; rw [← hp8, ← hp9, hs, List.length_append]; omega
        have HPT := Lib.hid hpt
        have HTR := Lib.hid htr
        have HP7 := Lib.hid hp7
        have HP8 := Lib.hid hp8
        have HP9 := Lib.hid hp9
        clear hp7 hp8 hp9 hi1' hi2' hpt htr hL HI HR
        have q1 : ((a8 : Int) + (L : Int) != (a7 : Int)) = false := by simp; omega
        have q2 : ¬ (a8 : Int) < (a9 : Int) := by omega
        have q3 : IntKind.i64.wrap ((a8 : Int) + (L : Int)) = (a8 : Int) + (L : Int) := IntWalk.i64_in _ ⟨by omega, by omega⟩
        have q4 : (a8 : Int) + (L : Int) = (a7 : Int) := by omega
        go_wp2
        clear q1 q2 q3 q4
        go_loopw [129] (fun t129 wr => ∃ i : Nat, i ≤ a7 ∧ t129 = .int .i64 (i : Int) ∧ wz = wr) (fun t129 _ => a7 - (intOf t129).toNat)
        case atStart => exact ⟨0, Nat.zero_le _, rfl, rfl⟩
        case round =>
          obtain ⟨i, hi7, rfl, rfl⟩ := hrel
          by_cases hil : i < a7
          · have hil2 : (i : Int) < (a7 : Int) := by omega
            obtain ⟨s, hs⟩ : ∃ s, pp[i]? = some s := ⟨_, List.getElem?_eq_getElem (by rw [HP7.out]; exact hil)⟩
            have HS := Lib.hid hs
            obtain ⟨g7, c7', cu7, e7, -⟩ := ownk_some HO2.out.oa (by omega)
            injection e7 with e7 _ e7c
            subst e7 e7c
            have k7 := own_cell HO2.out.oa (j := i) (u := txt s) (by simp [strs, hs])
            clear hs cu7
            by_cases h8 : i < a8
            · have h8i : (i : Int) < (a8 : Int) := by omega
              have ht8 : tt[i]? = some s := by have := HS.out; rw [HPT.out, List.getElem?_append_left (by rw [HP8.out]; exact h8)] at this; exact this
              obtain ⟨g8, c8', cu8, e8, -⟩ := ownk_some HO2.out.ob (by omega)
              injection e8 with e8 _ e8c
              subst e8 e8c
              have k8 := own_cell HO2.out.ob (j := i) (u := txt s) (by simp [strs, ht8])
              clear cu8
              by_cases h9 : i < a9
              · have h9i : (i : Int) < (a9 : Int) := by omega
                have hr9 : rr[i]? = some s := by obtain ⟨y, hy⟩ := HTR.out; rw [hy, List.getElem?_append_left (by rw [HP9.out]; exact h9)] at ht8; exact ht8
                obtain ⟨g9, c9', cu9, e9, -⟩ := ownk_some HO2.out.oc (by omega)
                injection e9 with e9 _ e9c
                subst e9 e9c
                have k9 := own_cell HO2.out.oc (j := i) (u := txt s) (by simp [strs, hr9])
                have h8n : ¬ (a8 : Int) ≤ (i : Int) := by omega
                clear cu9 ht8 hr9
                go_wp2
                go_roundw
                case rel => exact ⟨i + 1, by omega, by go_num, trivial⟩
                case measure => simp [intOf]; omega
              · have h9i : ¬ (i : Int) < (a9 : Int) := by omega
                have h8n : ¬ (a8 : Int) ≤ (i : Int) := by omega
                clear ht8
                go_wp2
                go_roundw
                case rel => exact ⟨i + 1, by omega, by go_num, trivial⟩
                case measure => simp [intOf]; omega
            · have h8i : ¬ (i : Int) < (a8 : Int) := by omega
              have h9i : ¬ (i : Int) < (a9 : Int) := by omega
              have h8n : (a8 : Int) ≤ (i : Int) := by omega
              obtain ⟨j, hj⟩ : ∃ j, i - a8 = j := ⟨_, rfl⟩
              have hjp : x.P[j]? = some s := by have := HS.out; rw [HPT.out, List.getElem?_append_right (by rw [HP8.out]; omega), HP8.out, hj] at this; exact this
              obtain ⟨v6, hv6, A6, c6, rfl, hrd6, -⟩ := HF2.out.2 j s hjp
              obtain ⟨gb, cb', cub, eb, -⟩ := ownk_some HU2.out (by omega)
              injection eb with eb _ ebc
              subst eb ebc
              have kb := own_cell HU2.out hv6
              have hcv : (convert 35 9 (.slice A6 s.length c6)).run Try.prog wz = .ok (txt s) wz := run_text (P := Try.prog) wz 35 9 5 (l := s) c6 Try.underlying35 Try.underlying5 Try.underlying9 hrd6
              have hji : (i : Int) - (a8 : Int) = (j : Int) := by omega
              have hj0 : (0 : Int) ≤ (j : Int) := by omega
              have hj1 : (j : Int) < (L : Int) := by omega
              have hjL : j < L := by omega
              clear hjp hv6 hrd6 cub hj
              go_wp2
              go_roundw
              case rel => exact ⟨i + 1, by omega, by go_num, trivial⟩
              case measure => simp [intOf]; omega
          · have hil2 : ¬ (i : Int) < (a7 : Int) := by omega
            go_wp2
            go_ret
            exact ⟨rfl, HBZ.out⟩
end Go.Proofs.Ytdbiledmokldjaa
