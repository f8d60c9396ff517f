/-
  frag.clone: the same hole, in memory of its own. Every hole that can be read. No condition.
-/
import Derived.Test.YtogplhdcicajgaaCloneP
namespace Go.Proofs.Ytogplhdcicajgaa
open Go.RowKit

theorem part_at {w : World} {xs : List Value} {ps : List Pt} {k : Nat} {pk : Pt} (h : RowOf 2 (PtT w) xs ps) (hk : ps[k]? = some pk) : ∃ v, xs[k * 2]? = some (.int .i64 pk.off) ∧ xs[k * 2 + 1]? = some v ∧ TB w 0 pk.data v := by
  obtain ⟨v, e, hb⟩ := h.2 k pk hk
  have e0 := congrArg (fun l => l[0]?) e
  have e1 := congrArg (fun l => l[1]?) e
  simp [List.getElem?_drop] at e0 e1
  exact ⟨v, e0, e1, hb⟩
theorem set_part (xs : List Value) (i : Nat) (u v : Value) (h0 : xs[i * 2]? = some u) (h1 : i * 2 + 1 < xs.length) : xs.set (i * 2 + 1) v = xs.take (i * 2) ++ [u, v] ++ xs.drop (i * 2 + 2) := by
  rw [List.set_eq_take_append_cons_drop, if_pos h1, List.take_succ_eq_append_getElem (by omega)]
  have : xs[i * 2]'(by omega) = u := by
    rw [List.getElem?_eq_getElem (by omega)] at h0
    injection h0
  rw [this]
  simp
/-- a block is written, all others stand -/
def SetS (g : Nat) (w w' : World) : Prop := (∃ C, w.heap[g]? = some (.cells C 60 (0, 0))) ∧ ∀ k, k ≠ g → w'.heap[k]? = w.heap[k]?
theorem TB.setS {w w' : World} {g lo : Nat} {l : List UInt8} {v : Value} (h : TB w lo l v) (hs : SetS g w w') : TB w' lo l v := by
  obtain ⟨⟨C, hC⟩, hk⟩ := hs
  refine h.keep fun A hA => hA.keep fun g' D _ hg' => hk g' fun he => ?_
  subst he
  rw [hC] at hg'
  injection hg' with hg'
  injection hg' with _ h2
  exact absurd h2 (by decide)
theorem rows_set {w w' : World} {g k : Nat} {xs : List Value} {ps : List Pt} {pk : Pt} {v : Value} (h : RowOf 2 (PtT w) xs ps) (hk : ps[k]? = some pk) (hv : TB w 0 pk.data v) (hs : SetS g w w') : RowOf 2 (PtT w') (xs.set (k * 2 + 1) v) ps := by
  obtain ⟨v0, e0, e1, _⟩ := part_at h hk
  have hlt := (List.getElem?_eq_some_iff.1 hk).1
  have h1 := (List.getElem?_eq_some_iff.1 e1).1
  rw [set_part xs k _ v e0 h1]
  have hr : RowOf 2 (PtT w') xs ps := h.imp fun cs p _ hp => by
    obtain ⟨u, e, hb⟩ := hp
    exact ⟨u, e, hb.setS hs⟩
  have := hr.set (i := k) (cs := [.int .i64 pk.off, v]) (a := pk) hlt ⟨v, rfl, hv.setS hs⟩ rfl
  have e : ps.set k pk = ps := by
    have : pk = ps[k] := by
      rw [List.getElem?_eq_getElem hlt] at hk
      injection hk with hk
      exact hk.symm
    rw [this, List.set_getElem_self]
  rwa [e] at this
def NewB (l : List UInt8) : Pred := fun v w => TB w 0 l v
theorem newb_mono (l : List UInt8) : Mono (NewB l) := fun _ _ _ hb h => TB.below h hb (Nat.le_refl _)
theorem newb_sg (g : Nat) (l : List UInt8) : StableG (SetS g) (NewB l) := fun _ _ _ hs h => TB.setS h hs
theorem hkS_13 {h : Hk} (hk : h.ok) (v0 v : Value) : (hkC h v0).toArray.setIfInBounds 13 v = (hkC h v).toArray := by
  obtain ⟨s0, s1, s2, s3, e1⟩ := four_of h.src hk.2.1
  obtain ⟨d0, d1, d2, d3, e2⟩ := four_of h.dst hk.2.2.1
  rw [List.setIfInBounds_toArray]
  simp only [hkC, e1, e2]
  rfl

set_option maxRecDepth 100000 in
set_option maxHeartbeats 4000000 in
theorem cloneh_any (cs : Array Value) (h : Hk) (w : World) (hh : HkT w cs.toList h) :
    Calls Try.prog 25 #[.agg cs] w fun e w' => ∃ ds, e = .returned (.agg ds) ∧ HkT w' ds.toList h ∧ Below w.heap.size w w' := by
  obtain ⟨A, c0, xs0, _, _, _, _, _, k13, htr, hrow, hlc, hcm, hA⟩ := hh.parts
  obtain ⟨v0, he, hok, _⟩ := hh
  obtain ⟨n, hn⟩ : ∃ n, h.got.length = n := ⟨_, rfl⟩
  rw [hn] at k13 hlc
  have HN := Lib.hid hn
  have hn1 : n ≤ 1000 := by rw [← hn]; exact hok.2.2.2.2.2.2.1
  have HCE : Hid (cs = (hkC h v0).toArray) := by show _ = _; rw [← he]
  have HOK := Lib.hid hok
  have HTR := Lib.hid htr
  have HRO := Lib.hid hrow
  have HA := Lib.hid hA
  rw [Array.getElem?_toList] at k13
  clear he hok hn htr hrow hlc hcm hA
  obtain ⟨C2, hC2⟩ : ∃ C2 : Array Value, C2 = #[.int .u8 0, .int .u8 0, .int .u8 0, .int .u8 0, .int .u8 0, .int .u8 0, .int .u8 0, .int .u8 0, .int .u8 0, .int .u16 0, .int .u8 0, .int .u64 0, .int .i64 0, .slice none 0 0] := ⟨_, rfl⟩
  have HC2 := Lib.hid hC2
  go_enter Try.func25, Try.ntmps25
  go_wp2_with fail
  rw [← hC2]
  have HB1 := Lib.hid (((Below.refl w.heap.size w).alloc (Nat.le_refl _) (.cells cs 49)).alloc (by simp) (.cells C2 49))
  have HG1 : Hid (((w.alloc (.cells cs 49)).alloc (.cells C2 49)).heap[w.heap.size]? = some (.cells cs 49 (0, 0))) := old_alloc (heap_alloc_new w _) _
  have HG2 : Hid (((w.alloc (.cells cs 49)).alloc (.cells C2 49)).heap[w.heap.size + 1]? = some (.cells C2 49 (0, 0))) := by
    have := heap_alloc_new (w.alloc (.cells cs 49)) (.cells C2 49)
    rwa [World.size_alloc] at this
  have HZ1 : Hid (((w.alloc (.cells cs 49)).alloc (.cells C2 49)).heap.size = w.heap.size + 2) := by show _ = _; simp
  clear hC2
  generalize (w.alloc (.cells cs 49)).alloc (.cells C2 49) = w1 at HB1 HG1 HG2 HZ1 ⊢
  refine (clonep_any A xs0 n c0 h.got w1 (HTR.out.below HB1.out (Nat.le_refl _)) (HRO.out.imp fun _ _ _ hp => hp.keeps (Keeps.below HB1.out (Nat.le_refl _))) HN.out HA.out (by omega)).mono ?_
  rintro e w2 ⟨v, rfl, hown, hb2⟩
  obtain ⟨A5, c5, rfl, hnc5, hcm5, hA5⟩ := ownk_form hown
  have hx1 := (hb2.block _ (row_lt HG1.out)).trans HG1.out
  have hc13 : w2.cell? ⟨w.heap.size, 13, none⟩ = some (.slice A n c0) := by rw [cell_of_row _ _ _ _ _ _ hx1]; exact k13
  have hf13 := frozen_of_row _ _ 13 _ _ hx1
  have hy := heap_setCell_same w2 w.heap.size 13 cs 49 (.slice A5 n c5) hx1
  rw [HCE.out, hkS_13 HOK.out] at hy
  obtain ⟨C1, hC1⟩ : ∃ C1, (hkC h (.slice A5 n c5)).toArray = C1 := ⟨_, rfl⟩
  rw [hC1] at hy
  have HY := Lib.hid hy
  have HC1 := Lib.hid hC1
  have HY2 : Hid ((w2.setCell ⟨w.heap.size, 13, none⟩ (.slice A5 n c5)).heap[w.heap.size + 1]? = some (.cells C2 49 (0, 0))) := (heap_setCell_other _ _ _ _ (by simp)).trans ((hb2.block _ (row_lt HG2.out)).trans HG2.out)
  have HBZ : Hid (Below w.heap.size w (w2.setCell ⟨w.heap.size, 13, none⟩ (.slice A5 n c5))) := (HB1.out.trans (hb2.mono HB1.out.size)).setCell (Nat.le_refl _) _
  have HOW : Hid ((w2.setCell ⟨w.heap.size, 13, none⟩ (.slice A5 n c5)).ownsRow (w.heap.size + 2) 60 2 (.slice A5 n c5) n xs0) := by
    have := HZ1.out
    rw [this] at hown
    exact ownk_setCell_other hown (fun b hb => by have := hown.lt b hb; simp only; omega) _
  have HRW : Hid (RowOf 2 (PtT (w2.setCell ⟨w.heap.size, 13, none⟩ (.slice A5 n c5))) xs0 h.got) := HRO.out.imp fun _ _ _ hp => (hp.keeps (Keeps.below HB1.out (Nat.le_refl _))).keeps (Keeps.trans (Keeps.below hb2 (Nat.le_refl _)) (Keeps.other hx1 (by decide) fun k hk => heap_setCell_other _ _ _ _ hk))
  have HS1 : Hid (C1.size = 14 ∧ C2.size = 14) := ⟨by rw [← hC1]; simpa using hkC_len HOK.out _, by rw [HC2.out]; rfl⟩
  have z13 : (w2.setCell ⟨w.heap.size, 13, none⟩ (.slice A5 n c5)).cell? ⟨w.heap.size, 13, none⟩ = some (.slice A5 n c5) := by
    have h1 : C1[13]? = some (.slice A5 n c5) := by
      obtain ⟨s0, s1, s2, s3, e1⟩ := four_of h.src HOK.out.2.1
      obtain ⟨d0, d1, d2, d3, e2⟩ := four_of h.dst HOK.out.2.2.1
      rw [← hC1, List.getElem?_toArray]
      simp only [hkC, e1, e2]
      rfl
    rw [cell_of_row _ _ _ _ _ _ HY.out]
    exact h1
  have HCA : Hid (n ≤ c5 ∧ c5 ≤ maxLen ∧ (A5 = none → c5 = 0)) := ⟨hnc5, hcm5, hA5⟩
  clear hown hb2 hnc5 hcm5 hA5 hx1 hy hC1
  go_wp2
  generalize w2.setCell ⟨w.heap.size, 13, none⟩ (.slice A5 n c5) = w3 at HY HY2 HBZ HOW HRW z13 ⊢
  clear hc13 hf13 z13
  go_loopw [11] (fun t11 wr => ∃ (k : Nat) (xs : List Value), k ≤ n ∧ t11 = .int .i64 (k : Int) ∧ Hid (wr.ownsRow (w.heap.size + 2) 60 2 (.slice A5 n c5) n xs) ∧ Hid (RowOf 2 (PtT wr) xs h.got) ∧ Hid (Below w.heap.size w wr) ∧ Hid (wr.heap[w.heap.size]? = some (.cells C1 49 (0, 0))) ∧ Hid (wr.heap[w.heap.size + 1]? = some (.cells C2 49 (0, 0)))) (fun t11 _ => n - (intOf t11).toNat)
  case atStart => exact ⟨0, xs0, Nat.zero_le _, rfl, HOW, HRW, HBZ, HY, HY2⟩
  case round =>
    obtain ⟨k, xs, hk, rfl, HOWN, HROW, HBEL, HBX, HBY⟩ := hrel
    by_cases hlt : k < n
    · obtain ⟨ps, hps⟩ : ∃ ps, h.got = ps := ⟨_, rfl⟩
      rw [hps] at HROW
      obtain ⟨pk, hpk⟩ : ∃ pk, ps[k]? = some pk := ⟨_, List.getElem?_eq_getElem (by rw [← hps, HN.out]; exact hlt)⟩
      obtain ⟨v, _, hvk, htb⟩ := part_at HROW.out hpk
      obtain ⟨A2, c2, rfl, _⟩ := htb
      obtain ⟨l, hl⟩ : ∃ l, pk.data = l := ⟨_, rfl⟩
      obtain ⟨m2, hm2⟩ : ∃ m2, l.length = m2 := ⟨_, rfl⟩
      rw [hl, hm2] at hvk
      have hm3 : m2 ≤ 1000 := by
        rw [← hm2, ← hl]
        exact (HOK.out.2.2.2.2.2.2.2 pk (by rw [hps]; exact List.mem_of_getElem? hpk)).2.2.1
      obtain ⟨g, cc, cur, hg, _⟩ := ownk_some HOWN.out (by omega)
      injection hg with hg1 hg2 hg3
      subst hg1 hg3
      have HPK := Lib.hid hpk
      have HVK := Lib.hid hvk
      have HDL := Lib.hid hl
      have HML := Lib.hid hm2
      have HPS := Lib.hid hps
      have H13 : Hid (C1[13]? = some (.slice (some ⟨g, 0, none⟩) n c5)) := by
        obtain ⟨s0, s1, s2, s3, e1⟩ := four_of h.src HOK.out.2.1
        obtain ⟨d0, d1, d2, d3, e2⟩ := four_of h.dst HOK.out.2.2.1
        show _ = _
        rw [← HC1.out, List.getElem?_toArray]
        simp only [hkC, e1, e2]
        rfl
      obtain ⟨B, hB⟩ : ∃ B, wr.heap.size = B := ⟨_, rfl⟩
      have HBS := Lib.hid hB
      clear hpk hvk hl hm2 hps hB
      go_wp2_with fail
      apply wp_region_relyG [12] (fun L w' => Below w.heap.size w w' ∧ w'.heap[w.heap.size]? = some (.cells C1 49 (0, 0)) ∧ B ≤ w'.heap.size ∧ w'.heap[w.heap.size + 1]? = some (.cells C2 49 (0, 0)) ∧ (L 12 = false → w'.ownsRow (w.heap.size + 2) 60 2 (.slice (some ⟨g, 0, none⟩) n c5) n xs ∧ RowOf 2 (PtT w') xs ps) ∧ (L 12 = true → ∃ xs', w'.ownsRow (w.heap.size + 2) 60 2 (.slice (some ⟨g, 0, none⟩) n c5) n xs' ∧ RowOf 2 (PtT w') xs' ps)) (RL [Is _, Is (.slice (some ⟨g, 0, none⟩) n c5), Is _, Is _, Is (.slice (some ⟨g, 0, none⟩) n c5), Is _, Is (.pointer (some ((⟨g, 0, none⟩ : Addr).add (k * 2)))), Is (.pointer (some ⟨g, k * 2 + 1, none⟩)), Is (.slice A2 m2 c2), NewB l, Is (.pointer (some ((⟨g, 0, none⟩ : Addr).add (k * 2)))), Is (.pointer (some ⟨g, k * 2 + 1, none⟩)), Any]) [false, false, false, false, false, false, false, false, false, false, false, false, false, false, true, true, true, true, true, true, true, true, true, true, true, true, false, false]
      · kernel_rfl
      · kernel_rfl
      · kernel_rfl
      · refine ⟨?_, ?_, ?_, ?_, ?_, ?_, ?_, ?_, ?_, ?_, ?_, ?_, ?_, trivial⟩
        · intro L ev w' hC hL hx K hK
          have e1 : ev (.tmp 1) = _ := hx.base 1 (by kernel_rfl)
          have HK := Lib.hid hK
          have HC := Lib.hid hC
          have HL := Lib.hid hL
          have HX := Lib.hid hx
          have hc := hx.cst
          skip
          clear hx hK hC hL
          unfold Run
          simp [execOp, Upon, go_sem, *]
          exact HK.out _ _ (.inl ⟨Below.refl _ _, by decide⟩) rfl
        · intro L ev w' hC hL hx K hK
          have e14 := hx.held 0 _ rfl (by kernel_rfl)
          change ev (.tmp 14) = _ at e14
          have HK := Lib.hid hK
          have HC := Lib.hid hC
          have HL := Lib.hid hL
          have HX := Lib.hid hx
          have hc := hx.cst
          skip
          clear hx hK hC hL
          have c13 := cell_of_row _ _ 13 _ _ _ HC.out.2.1
          rw [H13.out] at c13
          unfold Run
          simp [execOp, Upon, go_sem, *]
          exact HK.out _ _ (.inl ⟨Below.refl _ _, by decide⟩) rfl
        · intro L ev w' hC hL hx K hK
          have e3 : ev (.tmp 3) = _ := hx.base 3 (by kernel_rfl)
          have HK := Lib.hid hK
          have HC := Lib.hid hC
          have HL := Lib.hid hL
          have HX := Lib.hid hx
          have hc := hx.cst
          skip
          clear hx hK hC hL
          unfold Run
          simp [execOp, Upon, go_sem, *]
          exact HK.out _ _ (.inl ⟨Below.refl _ _, by decide⟩) rfl
        · intro L ev w' hC hL hx K hK
          have e1 : ev (.tmp 1) = _ := hx.base 1 (by kernel_rfl)
          have HK := Lib.hid hK
          have HC := Lib.hid hC
          have HL := Lib.hid hL
          have HX := Lib.hid hx
          have hc := hx.cst
          skip
          clear hx hK hC hL
          unfold Run
          simp [execOp, Upon, go_sem, *]
          exact HK.out _ _ (.inl ⟨Below.refl _ _, by decide⟩) rfl
        · intro L ev w' hC hL hx K hK
          have e17 := hx.held 3 _ rfl (by kernel_rfl)
          change ev (.tmp 17) = _ at e17
          have HK := Lib.hid hK
          have HC := Lib.hid hC
          have HL := Lib.hid hL
          have HX := Lib.hid hx
          have hc := hx.cst
          skip
          clear hx hK hC hL
          have c13 := cell_of_row _ _ 13 _ _ _ HC.out.2.1
          rw [H13.out] at c13
          unfold Run
          simp [execOp, Upon, go_sem, *]
          exact HK.out _ _ (.inl ⟨Below.refl _ _, by decide⟩) rfl
        · intro L ev w' hC hL hx K hK
          have e3 : ev (.tmp 3) = _ := hx.base 3 (by kernel_rfl)
          have HK := Lib.hid hK
          have HC := Lib.hid hC
          have HL := Lib.hid hL
          have HX := Lib.hid hx
          have hc := hx.cst
          skip
          clear hx hK hC hL
          unfold Run
          simp [execOp, Upon, go_sem, *]
          exact HK.out _ _ (.inl ⟨Below.refl _ _, by decide⟩) rfl
        · intro L ev w' hC hL hx K hK
          have e18 := hx.held 4 _ rfl (by kernel_rfl)
          have e19 := hx.held 5 _ rfl (by kernel_rfl)
          change ev (.tmp 18) = _ at e18
          change ev (.tmp 19) = _ at e19
          have HK := Lib.hid hK
          have HC := Lib.hid hC
          have HL := Lib.hid hL
          have HX := Lib.hid hx
          have hc := hx.cst
          skip
          clear hx hK hC hL
          unfold Run
          rw [run_indexE 47 _ _ rfl Try.underlying47 (size := 2) (by kernel_rfl) e18 e19 hlt]
          exact HK.out _ _ (.inl ⟨Below.refl _ _, by decide⟩) rfl
        · intro L ev w' hC hL hx K hK
          have e20 := hx.held 6 _ rfl (by kernel_rfl)
          change ev (.tmp 20) = _ at e20
          have HK := Lib.hid hK
          have HC := Lib.hid hC
          have HL := Lib.hid hL
          have HX := Lib.hid hx
          have hc := hx.cst
          skip
          clear hx hK hC hL
          have q1 : ev (.tmp 20) = .pointer (some ⟨g, k * 2, none⟩) := by rw [e20, Addr.add_mid, Nat.zero_add]
          unfold Run
          simp [execOp, Upon, go_sem, q1]
          exact HK.out _ _ (.inl ⟨Below.refl _ _, by decide⟩) rfl
        · intro L ev w' hC hL hx K hK
          have e21 := hx.held 7 _ rfl (by kernel_rfl)
          change ev (.tmp 21) = _ at e21
          have HK := Lib.hid hK
          have HC := Lib.hid hC
          have HL := Lib.hid hL
          have HX := Lib.hid hx
          have hc := hx.cst
          skip
          clear hx hK hC hL
          have hl12 : L 12 = false := Bool.eq_false_iff.2 fun h => by
            have h1 := HX.out.closed 12 _ 9 rfl h (by kernel_rfl)
            have h2 := HX.out.closed 9 _ 8 rfl h1 (by kernel_rfl)
            rw [HL.out] at h2
            cases h2
          have hcl := (HC.out.2.2.2.2.1 hl12).1.cellAt (k * 2 + 1) (by omega)
          rw [HVK.out] at hcl
          clear hl12
          unfold Run
          simp [execOp, Upon, go_sem, *]
          exact HK.out _ _ (.inl ⟨Below.refl _ _, by decide⟩) rfl
        · intro L ev w' hC hL hx K hK
          have e22 := hx.held 8 _ rfl (by kernel_rfl)
          change ev (.tmp 22) = _ at e22
          have HK := Lib.hid hK
          have HC := Lib.hid hC
          have HL := Lib.hid hL
          have HX := Lib.hid hx
          have hc := hx.cst
          have hf := hx.fn
          clear hx hK hC hL
          have hl12 : L 12 = false := Bool.eq_false_iff.2 fun h => by
            have h1 := HX.out.closed 12 _ 9 rfl h (by kernel_rfl)
            rw [HL.out] at h1
            cases h1
          obtain ⟨v2, _, hv2, htb⟩ := part_at (HC.out.2.2.2.2.1 hl12).2 HPK.out
          rw [HVK.out] at hv2
          injection hv2 with hv2
          subst hv2
          obtain ⟨A6, c6, hq6, htr6, _, _, hA6⟩ := htb
          rw [HDL.out, HML.out] at hq6
          injection hq6 with hq7 hq8 hq9
          subst hq7
          rw [HDL.out] at htr6
          have hcl := clone_any A2 l m2 c2 0 w'.heap.size w' htr6.rd HML.out (fun h => by have := rd_none htr6.rd h; have := HML.out; omega) (Nat.le_refl _) (by omega)
          clear hl12 htr6 hq9 hA6
          have HCL := Lib.hid hcl
          clear hcl
          unfold Run
          simp [execOp, Upon, go_sem, *]
          refine HCL.out.mono ?_
          rintro e w2 ⟨v, rfl, hv, hb⟩
          exact ⟨v, rfl, HK.out _ _ (.inl ⟨hb, by decide⟩) (hv.wide (Nat.zero_le _))⟩
        · intro L ev w' hC hL hx K hK
          have e15 := hx.held 1 _ rfl (by kernel_rfl)
          have e16 := hx.held 2 _ rfl (by kernel_rfl)
          change ev (.tmp 15) = _ at e15
          change ev (.tmp 16) = _ at e16
          have HK := Lib.hid hK
          have HC := Lib.hid hC
          have HL := Lib.hid hL
          have HX := Lib.hid hx
          have hc := hx.cst
          skip
          clear hx hK hC hL
          unfold Run
          rw [run_indexE 47 _ _ rfl Try.underlying47 (size := 2) (by kernel_rfl) e15 e16 hlt]
          exact HK.out _ _ (.inl ⟨Below.refl _ _, by decide⟩) rfl
        · intro L ev w' hC hL hx K hK
          have e24 := hx.held 10 _ rfl (by kernel_rfl)
          change ev (.tmp 24) = _ at e24
          have HK := Lib.hid hK
          have HC := Lib.hid hC
          have HL := Lib.hid hL
          have HX := Lib.hid hx
          have hc := hx.cst
          skip
          clear hx hK hC hL
          have q1 : ev (.tmp 24) = .pointer (some ⟨g, k * 2, none⟩) := by rw [e24, Addr.add_mid, Nat.zero_add]
          unfold Run
          simp [execOp, Upon, go_sem, q1]
          exact HK.out _ _ (.inl ⟨Below.refl _ _, by decide⟩) rfl
        · intro L ev w' hC hL hx K hK
          have e23 := hx.held 9 _ rfl (by kernel_rfl)
          have e25 := hx.held 11 _ rfl (by kernel_rfl)
          change (NewB l : Pred) (ev (.tmp 23)) _ at e23
          change ev (.tmp 25) = _ at e25
          have HK := Lib.hid hK
          have HC := Lib.hid hC
          have HL := Lib.hid hL
          have HX := Lib.hid hx
          have hc := hx.cst
          skip
          clear hx hK hC hL
          obtain ⟨hown, hrow⟩ := HC.out.2.2.2.2.1 HL.out
          obtain ⟨A5, c5, q23, t5, t6, t7, t8⟩ := e23
          rw [HML.out] at q23
          have hcl := hown.cellAt (k * 2 + 1) (by omega)
          rw [HVK.out] at hcl
          have hfz := hown.frozenAt (k * 2 + 1)
          have hrun := run_store_cell (P := Try.prog) w' g (k * 2 + 1) 25 (.slice A5 m2 c5) _ (by kernel_rfl) rfl rfl hcl hfz
          have hst := hown.stored (k * 2 + 1) (.slice A5 m2 c5)
          have hty := ownk_cells_of hown (g := g) rfl
          have HKE : Hid (SetS g w' (w'.setCell ⟨g, k * 2 + 1, none⟩ (.slice A5 m2 c5))) := ⟨hty, fun j hj => heap_setCell_other _ _ _ _ hj⟩
          have HTB : Hid (TB w' 0 l (.slice A5 m2 c5)) := ⟨A5, c5, by rw [HML.out], t5, t6, t7, t8⟩
          have HST := Lib.hid hst
          have HRW := Lib.hid hrow
          have HGG : Hid (w.heap.size + 2 ≤ g) := (hown.lt g rfl).1
          have HC1 := Lib.hid HC.out.1
          have HC2 := Lib.hid HC.out.2.1
          have HC3 := Lib.hid HC.out.2.2.1
          have HC4 := Lib.hid HC.out.2.2.2.1
          clear hown hrow hst hty t5 t6 t7 t8
          unfold Run
          rw [run_storeE 25 _ _ rfl e25 q23 hrun]
          refine HK.out _ _ (.inr ⟨⟨HC1.out.setCell (by have := HGG.out; simp only; omega) _, ?_, by simp; exact HC3.out, ?_, fun h => by simp [upd] at h, fun _ => ⟨_, HST.out.1, ?_⟩⟩, fun j hj hlj u hr => rl_sg (S := SetS g) (ex := [12]) 0 (by exact ⟨.inr (is_sg _ _), .inr (is_sg _ _), .inr (is_sg _ _), .inr (is_sg _ _), .inr (is_sg _ _), .inr (is_sg _ _), .inr (is_sg _ _), .inr (is_sg _ _), .inr (is_sg _ _), .inr (newb_sg _ _), .inr (is_sg _ _), .inr (is_sg _ _), .inl rfl, trivial⟩) j u _ _ (by rw [Nat.zero_add]; simp [hj]) HKE.out hr⟩) trivial
          · rw [heap_setCell_other _ _ _ _ (by have := HGG.out; simp only; omega)]
            exact HC2.out
          · rw [heap_setCell_other _ _ _ _ (by have := HGG.out; simp only; omega)]
            exact HC4.out
          · exact rows_set HRW.out HPK.out (by rw [HDL.out]; exact HTB.out) HKE.out
      · exact rl_mono ⟨is_mono _, is_mono _, is_mono _, is_mono _, is_mono _, is_mono _, is_mono _, is_mono _, is_mono _, newb_mono _, is_mono _, is_mono _, any_mono, trivial⟩
      · exact fun L L' w1 he h => ⟨h.1, h.2.1, h.2.2.1, h.2.2.2.1, fun hl => h.2.2.2.2.1 ((he 12 (by simp)).trans hl), fun hl => h.2.2.2.2.2 ((he 12 (by simp)).trans hl)⟩
      · exact fun L w1 w2 hb h => ⟨h.1.trans (hb.mono h.1.size), (hb.block _ (row_lt h.2.1)).trans h.2.1, Nat.le_trans h.2.2.1 hb.size, (hb.block _ (row_lt h.2.2.2.1)).trans h.2.2.2.1, fun hl => ⟨ownk_below (h.2.2.2.2.1 hl).1 hb (Nat.le_refl _), (h.2.2.2.2.1 hl).2.imp fun _ _ _ hp => hp.keeps (Keeps.below hb (Nat.le_refl _))⟩, fun hl => by obtain ⟨ys, h1, h2⟩ := h.2.2.2.2.2 hl; exact ⟨ys, ownk_below h1 hb (Nat.le_refl _), h2.imp fun _ _ _ hp => hp.keeps (Keeps.below hb (Nat.le_refl _))⟩⟩
      · exact ⟨HBEL.out, HBX.out, Nat.le_of_eq HBS.out.symm, HBY.out, fun _ => ⟨HOWN.out, HROW.out⟩, (fun h => by cases h)⟩
      · simp
      intro us wr hG hH
      obtain ⟨-, -, -, -, -, -, -, -, -, -, -, -, -, -⟩ := hH
      simp only [fillM]
      generalize us 14 = v14
      generalize us 15 = v15
      generalize us 16 = v16
      generalize us 17 = v17
      generalize us 18 = v18
      generalize us 19 = v19
      generalize us 20 = v20
      generalize us 21 = v21
      generalize us 22 = v22
      generalize us 23 = v23
      generalize us 24 = v24
      generalize us 25 = v25
      obtain ⟨g1, g2, _, g4, _, g5⟩ := hG
      obtain ⟨ys, o1, o2⟩ := g5 rfl
      have HB5 := Lib.hid g1
      have HX5 := Lib.hid g2
      have HY5 := Lib.hid g4
      have HO5 := Lib.hid o1
      have HR5 : Hid (RowOf 2 (PtT wr) ys h.got) := by rw [HPS.out]; exact o2
      clear g1 g2 g4 g5 o1 o2
      go_wp2
      go_roundw
      case rel => exact ⟨k + 1, ys, by omega, by go_num, HO5, HR5, HB5, HX5, HY5⟩
      case measure => simp [intOf]; omega
    · obtain rfl : k = n := by omega
      have HONE : Hid (C1.all (·.oneCell') = true) := by
        rw [← HC1.out]
        refine all_one fun u hu => ?_
        simp only [hkC, List.mem_append, List.mem_cons, List.not_mem_nil, or_false] at hu
        rcases hu with (hu | hu) | rfl | rfl | rfl | rfl | rfl | rfl
        · exact cells_one _ u hu
        · exact cells_one _ u hu
        all_goals rfl
      go_wp2_with (first | refine wpList_load_row rfl 49 _ rfl w.heap.size rfl 49 C1 (0, 0) _ HBX.out Try.underlying49 rfl (size_hk HS1.out.1) ?_ | refine wpList_store_row rfl 49 _ _ rfl (w.heap.size + 1) C1 rfl rfl 49 C2 HBY.out (size_hk HS1.out.1) (by rw [HS1.out.1, HS1.out.2]) HONE.out ?_)
      refine ret_one (g := w.heap.size + 1) rfl rfl (setRow_heap _ _ _ _ _ _ HBY.out) Try.underlying49 rfl (size_hk HS1.out.1) rfl ?_
      refine ⟨C1, rfl, ?_, below_setRow HBEL.out (by simp) _⟩
      have hkp : Keeps wr (wr.setRow (w.heap.size + 1) C1) := Keeps.other HBY.out (by decide) fun j hj => setRow_other _ _ _ _ hj
      refine ⟨.slice A5 k c5, by rw [← HC1.out], HOK.out, A5, c5, xs, by rw [HN.out], ?_, HROW.out.imp fun _ _ _ hp => hp.keeps hkp, by rw [HN.out]; exact HCA.out.1, HCA.out.2.1, HCA.out.2.2⟩
      exact ((Tr.own HOWN.out).wide (Nat.zero_le _)).keep fun j D _ hD => (hkp j D _ (.inr rfl) hD).trans hD.symm
end Go.Proofs.Ytogplhdcicajgaa
