/-
  recvq.Accept over the code's states. Every state, every piece of at most 1000 bytes.
-/
import Derived.Test.YtdgfhcojmfgimaaRdp
import Derived.Test.YtdgfhcojmfgimaaRdf
import Derived.Test.YtdgfhcojmfgimaaRdg
namespace Go.Proofs.Ytdgfhcojmfgimaa
open Go.RowKit

def PcsP (lo : Nat) (ps : List Pc) : Pred := fun v w => PcsT lo w v ps
theorem pcsp_mono (lo : Nat) (ps : List Pc) : Mono (PcsP lo ps) := fun _ _ _ hb h => PcsT.keeps h (Keeps.below hb (Nat.le_refl _))
set_option maxRecDepth 100000 in
set_option maxHeartbeats 4000000 in
theorem accept_q (q : Rq) (vD0 vA0 : Value) (S S2 : Nat → Prop) (a : Int) (v : Value) (D : List UInt8) (e : Bool) (w : World) (q1 : Rq) (p : Pc) (hr : Rvs w S (rqC q vD0 vA0).toList (rqD q)) (hv : Rv w S2 v (bytesD D)) (hD : D.length ≤ 1000)
    (hd0 : q.done = false) (hdl : q.data.length ≤ 1000) (hal : q.ahead.length ≤ 1000) (hap : ∀ t ∈ q.ahead, t.data.length ≤ 1000)
    (hq1 : knowQ q e (addS a D.length) = q1) (hp : wantQ q1 a D = p) (hpl : p.data.length ≤ 1000)
    (hlay : 0 < p.data.length → (∀ t ∈ q.ahead, -1000 ≤ offQ p t ∧ offQ p t ≤ 1000 ∧ 0 < t.data.length ∧ t.data.length ≤ 1000) ∧ ∃ p0 r, layQ q.ahead p = p0 :: r ∧ 0 < p0.data.length ∧ p0.data.length ≤ 1000 ∧ r.length ≤ 999) :
    Calls Try.prog 14 #[.agg (rqC q vD0 vA0), .int .u32 a, v, .bool e] w fun en w' => ∃ cs' : Array Value, en = .returned (.agg cs') ∧ Rvs w' (fun b => S b ∨ w.heap.size ≤ b) cs'.toList (rqD (overQ (gotQ q1 p))) ∧ Below w.heap.size w w' := by
  obtain ⟨A, c, rfl, -, h92, h93, h94⟩ := rv_bytes.1 hv
  obtain ⟨n, hn⟩ : ∃ n, D.length = n := ⟨_, rfl⟩
  rw [hn] at hv h93 hD hq1 ⊢
  have hc63 : c ≤ 9223372036854775807 := by unfold maxLen at h94; omega
  have HN := Lib.hid hn
  have HV := Lib.hid hv
  have HR0 := Lib.hid hr
  have HQ1 := Lib.hid hq1
  have HP := Lib.hid hp
  have HLAY := Lib.hid hlay
  have HAP := Lib.hid hap
  obtain ⟨w1, hw1⟩ : ∃ w1, (w.alloc (.cells (rqC q vD0 vA0) 29)).alloc (.cells Zrq 29) = w1 := ⟨_, rfl⟩
  have HB : Hid (Below w.heap.size w w1) := by rw [← hw1]; exact ((Below.refl _ _).alloc (Nat.le_refl _) _).alloc (by simp) _
  have HX : Hid (w1.heap[w.heap.size]? = some (.cells (rqC q vD0 vA0) 29 (0, 0))) := by rw [← hw1]; exact old_alloc (heap_alloc_new w _) _
  have HZ : Hid (w1.heap[w.heap.size + 1]? = some (.cells Zrq 29 (0, 0))) := by rw [← hw1]; exact new_at1 w _ _
  have HS1 : Hid (w1.heap.size = w.heap.size + 2) := by show _ = _; rw [← hw1]; simp
  have HW := Lib.hid hw1
  clear hw1 hn hr hv hq1 hp hlay hap h92 h94
  go_enter Try.func14, Try.ntmps14
  go_upto_region 1 with (fail)
  change Code.wp _ _ _ _ ((w.alloc (.cells (rqC q vD0 vA0) 29)).alloc (.cells Zrq 29))
  rw [HW.out]
  clear HW
  go_wp2_with (refine wpList_load_row rfl 29 _ rfl w.heap.size rfl 29 (rqC q vD0 vA0) (0, 0) _ HX.out Try.underlying29 rfl (by kernel_rfl) ?_)
  refine (qclone_any q (rqC q vD0 vA0) S w1 (rvs_below HR0.out HB.out) (by omega) (by omega) HAP.out).mono ?_
  rintro en w2 ⟨cs2, lo2, rfl, hq2, hlo, hlo2, hb2⟩
  obtain ⟨vD, vA, rfl, hDD, hDl, hAA⟩ := hq2
  have HX2 := Lib.hid (old_below HX.out hb2 (row_lt HX.out))
  have HZ2 := Lib.hid (old_below HZ.out hb2 (row_lt HZ.out))
  have HB2 := Lib.hid (HB.out.trans (hb2.mono HB.out.size))
  have HLO : Hid (w.heap.size + 2 ≤ lo2) := by have := HS1.out; show _ ≤ _; omega
  have HD2 := Lib.hid (ownk_base hDD (b2 := w.heap.size + 2) (by rw [HS1.out]; exact Nat.le_refl _))
  have HDL := Lib.hid hDl
  have HA2 := Lib.hid hAA
  have HLO2 := Lib.hid hlo2
  have HONE : Hid (∀ x : Rq, (rqC x vD vA).all (·.oneCell') = true) := fun x => rqc_ones (own_tb hDD).one hAA.one
  clear hb2 hDD hDl hAA hlo hlo2 HX HZ HB HS1
  obtain ⟨w3, hw3⟩ : ∃ w3, w2.setRow w.heap.size (rqC q vD vA) = w3 := ⟨_, rfl⟩
  have HX3 : Hid (w3.heap[w.heap.size]? = some (.cells (rqC q vD vA) 29 (0, 0))) := by rw [← hw3]; exact setRow_heap _ _ _ _ _ _ HX2.out
  have HZ3 : Hid (w3.heap[w.heap.size + 1]? = some (.cells Zrq 29 (0, 0))) := by rw [← hw3]; exact (setRow_other _ _ _ _ (by omega)).trans HZ2.out
  have HB3 : Hid (Below w.heap.size w w3) := by rw [← hw3]; exact below_setRow HB2.out (Nat.le_refl _) _
  have hk3 : Keeps w2 w3 := by rw [← hw3]; exact Keeps.other HX2.out (by decide) fun j hj => setRow_other _ _ _ _ hj
  have HD3 := Lib.hid (ownb_keeps (.inl rfl) HD2.out hk3)
  have HA3 := Lib.hid (HA2.out.keeps hk3)
  have HL3 : Hid (lo2 ≤ w3.heap.size) := by show _ ≤ _; rw [← hw3]; simp [World.setRow]; exact HLO2.out
  have HW3 := Lib.hid hw3
  clear hw3 hk3
  have c5 : w3.cell? ⟨w.heap.size, 5, none⟩ = some (.bool false) := by rw [cell_of_row _ _ _ _ _ _ HX3.out, ← hd0]; rfl
  go_upto_region 2 with (refine wpList_store_row rfl 29 _ _ rfl w.heap.size (rqC q vD vA) rfl rfl 29 (rqC q vD0 vA0) HX2.out (by kernel_rfl) rfl (HONE.out q) ?_; rw [HW3.out])
  clear HW3 HX2 HZ2 HB2 HD2 HA2 HLO2
  go_upto_region 4 with (fail)
  have HKD : Hid (q1.data = q.data ∧ q1.ahead = q.ahead ∧ q1.done = q.done ∧ q1.next = q.next) := by
    show _ ∧ _
    rw [← HQ1.out]
    unfold knowQ
    split <;> exact ⟨rfl, rfl, rfl, rfl⟩
  obtain ⟨bh, hbh⟩ : ∃ bh, addS a (n : Int) = bh := ⟨_, rfl⟩
  rw [hbh] at HQ1
  have HBH := Lib.hid hbh
  have HADD : Hid (∀ W : World, Calls Try.prog 24 #[.int .u32 a, .int .i64 (n : Int)] W fun e w' => e = .returned (.int .u32 bh) ∧ W = w') := fun W => by rw [← hbh]; exact seqadd_any _ _ W
  clear hbh c5
  obtain ⟨b0, b1, b2, b3, b4, b5⟩ := rq_cells HX3.out
  have HKN : Hid (q1 = if (e && !q.known && mayQ q bh) = true then { q with known := true, fin := bh } else q) := by
    show _ = _
    rw [← HQ1.out]
    unfold knowQ
    cases e <;> cases q.known <;> cases mayQ q bh <;> rfl
  clear HQ1
  go_upto_region 5 with (first | (refine (HADD.out _).mono ?_; rintro en w4 ⟨rfl, rfl⟩) | go_in)
  go_cut [30] (fun t30 wx => ∃ bb : Bool, t30 = .bool bb ∧ Hid (bb = (e && !q.known && mayQ q bh)) ∧ Hid (wx.heap[w.heap.size]? = some (.cells (rqC q vD vA) 29 (0, 0))) ∧ Hid (wx.heap[w.heap.size + 1]? = some (.cells Zrq 29 (0, 0))) ∧ Hid (Below w.heap.size w wx) ∧ Hid (Keeps w3 wx) ∧ Hid (w3.heap.size ≤ wx.heap.size))
  case first =>
    cases e
    · go_wp2_with fail
      go_meet
      case rel => exact ⟨false, rfl, rfl, HX3, HZ3, HB3, Keeps.refl _, Nat.le_refl _⟩
    · obtain ⟨kn, hkn⟩ : ∃ kn, q.known = kn := ⟨_, rfl⟩
      rw [hkn] at b3
      have HKK := Lib.hid hkn
      clear hkn
      cases kn
      · go_wp2_with fail
        have hmy := mayend_any (w.heap.size + 2) lo2 q (rqC q vD vA) bh w3 ⟨vD, vA, rfl, HD3.out, HDL.out, HA3.out⟩ hdl hal HAP.out
        unfold rqC at hmy
        rw [HKK.out, hd0] at hmy
        have HMY := Lib.hid hmy
        clear hmy
        refine HMY.out.mono ?_
        rintro en w4 ⟨rfl, hb4⟩
        have HX4 := Lib.hid (old_below HX3.out hb4 (row_lt HX3.out))
        have HZ4 := Lib.hid (old_below HZ3.out hb4 (row_lt HZ3.out))
        have HB4 := Lib.hid (HB3.out.trans (hb4.mono HB3.out.size))
        have HK4 : Hid (Keeps w3 w4) := Keeps.below hb4 (Nat.le_refl _)
        have HS4 : Hid (w3.heap.size ≤ w4.heap.size) := hb4.size
        clear hb4
        go_wp2
        go_meet
        case rel => exact ⟨mayQ q bh, rfl, by show _ = _; rw [HKK.out]; rfl, HX4, HZ4, HB4, HK4, HS4⟩
      · go_wp2_with fail
        go_meet
        case rel => exact ⟨false, rfl, by show _ = _; rw [HKK.out]; rfl, HX3, HZ3, HB3, Keeps.refl _, Nat.le_refl _⟩
  case rest =>
  obtain ⟨bb, rfl, HBB, HX4, HZ4, HB4, HK4, HS4⟩ := hcut
  rename World => w4
  rw [← HBB.out] at HKN
  clear HX3 HZ3 HB3 b0 b1 b2 b3 b4 b5
  go_upto_if 30 with (fail)
  go_cut [] (fun wx => Hid (wx.heap[w.heap.size]? = some (.cells (rqC q1 vD vA) 29 (0, 0))) ∧ Hid (wx.heap[w.heap.size + 1]? = some (.cells Zrq 29 (0, 0))) ∧ Hid (Below w.heap.size w wx) ∧ Hid (Keeps w3 wx) ∧ Hid (w3.heap.size ≤ wx.heap.size))
  case first =>
    cases bb
    · have HQE : Hid (q1 = q) := HKN.out
      go_wp2_with fail
      go_meet
      case rel => exact ⟨by rw [HQE.out]; exact HX4, HZ4, HB4, HK4, HS4⟩
    · have HQE : Hid (q1 = { q with known := true, fin := bh }) := HKN.out
      go_wp2_with (first | (refine wpList_store_fld rfl 4 _ _ rfl (w.heap.size) 3 rfl (.bool true) rfl 29 (rqC q vD vA) HX4.out (by show 3 < 6; omega) (by kernel_rfl) (rfl) (rqC { q with known := true } vD vA) rfl ?_; obtain ⟨w5, hw5⟩ : ∃ x, w4.setRow (w.heap.size) (rqC { q with known := true } vD vA) = x := ⟨_, rfl⟩; have HXw5 : Hid (w5.heap[w.heap.size]? = some (.cells (rqC { q with known := true } vD vA) 29 (0, 0))) := (by rw [← hw5]; exact setRow_heap _ _ _ _ _ _ HX4.out); have HZ4w5 : Hid (w5.heap[w.heap.size + 1]? = some (.cells (Zrq) 29 (0, 0))) := (by rw [← hw5]; exact (setRow_other _ _ _ _ (by omega)).trans HZ4.out); have HBw5 : Hid (Below w.heap.size w w5) := (by rw [← hw5]; exact below_setRow HB4.out (Nat.le_refl _) _); have HKw5 : Hid (Keeps w4 w5) := (by rw [← hw5]; exact Keeps.other HX4.out (by decide) fun j hj => setRow_other _ _ _ _ hj); have HSZw5 : Hid (w4.heap.size ≤ w5.heap.size) := (by show w4.heap.size ≤ w5.heap.size; rw [← hw5]; simp [World.setRow]); have HWw5 := Lib.hid hw5; clear hw5; rw [HWw5.out]; clear HWw5) | (refine wpList_store_fld rfl 22 _ _ rfl (w.heap.size) 4 rfl (.int .u32 bh) rfl 29 (rqC { q with known := true } vD vA) HXw5.out (by show 4 < 6; omega) (by kernel_rfl) (rfl) (rqC { q with known := true, fin := bh } vD vA) rfl ?_; obtain ⟨w6, hw6⟩ : ∃ x, w5.setRow (w.heap.size) (rqC { q with known := true, fin := bh } vD vA) = x := ⟨_, rfl⟩; have HXw6 : Hid (w6.heap[w.heap.size]? = some (.cells (rqC { q with known := true, fin := bh } vD vA) 29 (0, 0))) := (by rw [← hw6]; exact setRow_heap _ _ _ _ _ _ HXw5.out); have HZ4w5w6 : Hid (w6.heap[w.heap.size + 1]? = some (.cells (Zrq) 29 (0, 0))) := (by rw [← hw6]; exact (setRow_other _ _ _ _ (by omega)).trans HZ4w5.out); have HBw6 : Hid (Below w.heap.size w w6) := (by rw [← hw6]; exact below_setRow HBw5.out (Nat.le_refl _) _); have HKw6 : Hid (Keeps w5 w6) := (by rw [← hw6]; exact Keeps.other HXw5.out (by decide) fun j hj => setRow_other _ _ _ _ hj); have HSZw6 : Hid (w5.heap.size ≤ w6.heap.size) := (by show w5.heap.size ≤ w6.heap.size; rw [← hw6]; simp [World.setRow]); have HWw6 := Lib.hid hw6; clear hw6; rw [HWw6.out]; clear HWw6))
      go_meet
      case rel => exact ⟨by rw [HQE.out]; exact HXw6, HZ4w5w6, HBw6, HK4.out.trans (HKw5.out.trans HKw6.out), Nat.le_trans HS4.out (Nat.le_trans HSZw5.out HSZw6.out)⟩
  case rest =>
  clear HX4 HZ4 HB4 HK4 HS4
  obtain ⟨HX4, HZ4, HB4, HK4, HS4⟩ := hcut
  rename World => w5
  have HD4 : Hid (w5.ownsRow (w.heap.size + 2) 5 1 vD q1.data.length (cells q1.data)) := by
    show World.ownsRow _ _ _ _ _ _ _
    rw [HKD.out.1]
    exact ownb_keeps (.inl rfl) HD3.out HK4.out
  have HA4 : Hid (PcsT lo2 w5 vA q1.ahead) := by
    show PcsT _ _ _ _
    rw [HKD.out.2.1]
    exact HA3.out.keeps HK4.out
  have HL4 : Hid (lo2 ≤ w5.heap.size) := Nat.le_trans HL3.out HS4.out
  have hdl1 : q1.data.length ≤ 1000 := by rw [HKD.out.1]; exact hdl
  have hal1 : q1.ahead.length ≤ 1000 := by rw [HKD.out.2.1]; exact hal
  clear HK4 HS4 HD3 HA3 HL3
  go_wp2_with (refine wpList_load_row rfl 29 _ rfl w.heap.size rfl 29 (rqC q1 vD vA) (0, 0) _ HX4.out Try.underlying29 rfl (by kernel_rfl) ?_)
  refine (wanted_any (w.heap.size + 2) lo2 q1 (rqC q1 vD vA) a (.slice A n c) D S2 w5 ⟨vD, vA, rfl, HD4.out, HDL.out, HA4.out⟩ hdl1 (rv_below HV.out HB4.out) (by rw [HN.out]; exact hD)).mono ?_
  rw [HP.out]
  rintro en wv ⟨vp, rfl, hvp, hb5⟩
  obtain ⟨Ap, cp, rfl, _, _, hcp, hcm⟩ := rv_bytes.1 hvp
  obtain ⟨m, hm⟩ : ∃ m, p.data.length = m := ⟨_, rfl⟩
  rw [hm] at hvp hcp hpl ⊢
  have hcp63 : cp ≤ 9223372036854775807 := by unfold maxLen at hcm; omega
  have HM := Lib.hid hm
  obtain ⟨g, hg⟩ : ∃ g, wv.heap.size = g := ⟨_, rfl⟩
  obtain ⟨sp, hsp⟩ : ∃ sp, p.seq = sp := ⟨_, rfl⟩
  rw [hsp]
  have HSP := Lib.hid hsp
  obtain ⟨w6, hw6⟩ : ∃ w6, wv.alloc (.cells #[.int .u32 sp, .slice Ap m cp] 55) = w6 := ⟨_, rfl⟩
  have hb6 : Below wv.heap.size wv w6 := by rw [← hw6]; exact (Below.refl _ _).alloc (Nat.le_refl _) _
  have HP6 : Hid (w6.heap[g]? = some (.cells #[.int .u32 sp, .slice Ap m cp] 55 (0, 0))) := by rw [← hw6, ← hg]; exact heap_alloc_new wv _
  have hb46 := hb5.trans (hb6.mono hb5.size)
  have HX6 := Lib.hid (old_below HX4.out hb46 (row_lt HX4.out))
  have HZ6 := Lib.hid (old_below HZ4.out hb46 (row_lt HZ4.out))
  have HB6 := Lib.hid (HB4.out.trans (hb46.mono HB4.out.size))
  have HD6 := Lib.hid (ownk_below HD4.out hb46 (Nat.le_refl _))
  have HA6 := Lib.hid (HA4.out.keeps (Keeps.below hb46 (Nat.le_refl _)))
  have HL6 : Hid (lo2 ≤ w6.heap.size) := Nat.le_trans HL4.out hb46.size
  have HVP := Lib.hid (rv_below hvp hb6)
  have HG5 := Lib.hid hg
  have HW6 := Lib.hid hw6
  have HGL : Hid (lo2 ≤ g) := by show _ ≤ _; rw [← hg]; exact Nat.le_trans HL4.out hb5.size
  clear hb46 hb6 hb5 hvp hm hg hsp hw6 HX4 HZ4 HB4 HD4 HA4 HL4 hcm
  go_upto_region 8 with (first | refine wpList_store_new rfl 55 _ _ rfl wv #[.int .u32 0, .slice none 0 0] #[.int .u32 sp, .slice Ap m cp] rfl rfl (by kernel_rfl) rfl (pcx_ones _ _ _ _) ?_ | go_in)
  rw [HG5.out, HW6.out]
  have p1 : w6.cell? ⟨g, 1, none⟩ = some (.slice Ap m cp) := by rw [cell_of_row _ _ _ _ _ _ HP6.out]; rfl
  rcases Nat.eq_zero_or_pos m with hm0 | hm0
  · have HGQ : Hid (gotQ q1 p = q1) := by show _ = _; unfold gotQ; rw [if_neg (by rw [HM.out]; omega)]
    have HVA := Lib.hid HA6.out
    subst hm0
    have HX7 := Lib.hid HX6.out
    have HR7 : Hid (Rvs w6 (fun b => w.heap.size + 2 ≤ b) (rqC q1 vD vA).toList (rqD q1)) := rq_make (own_tb HD6.out).rv (HA6.out.rv.wide fun b hb => Nat.le_trans HLO.out hb)
    have HZ7 := Lib.hid HZ6.out
    have HB7 := Lib.hid HB6.out
    have HQ2 := Lib.hid HGQ.out
    obtain ⟨c0, c1, c2, c3, c4, c5⟩ := rq_cells HX7.out
    have HOO : Hid (∀ x : Rq, (rqC x vD vA).all (·.oneCell') = true) := fun x => rqc_ones (rq_data HR7.out).one (rq_ahead HR7.out).one
    obtain ⟨kn, hkn⟩ : ∃ kn, q1.known = kn := ⟨_, rfl⟩
    rw [hkn] at c3
    cases kn
    · have HOV : Hid (overQ q1 = q1) := by show _ = _; unfold overQ; rw [if_neg (fun h => by rw [hkn] at h; cases h.1)]
      clear hkn
      go_wp2_with (first | (refine wpList_load_row rfl 29 _ rfl (w.heap.size) rfl 29 (rqC q1 vD vA) (0, 0) _ HX7.out Try.underlying29 rfl (by kernel_rfl) ?_) | (refine wpList_store_row rfl 29 _ _ rfl (w.heap.size + 1) (rqC q1 vD vA) rfl rfl 29 (Zrq) HZ7.out (by kernel_rfl) rfl ((HOO.out q1)) ?_))
      (try simp only [Exit.inBlock, Exit.then])
      refine ret_one (g := w.heap.size + 1) rfl rfl (setRow_heap _ _ _ _ _ _ HZ7.out) Try.underlying29 rfl (by kernel_rfl) rfl ?_
      refine ⟨_, rfl, ?_, below_setRow HB7.out (by omega) _⟩
      rw [HQ2.out, HOV.out]
      exact (HR7.out.setRow (by omega) _).wide fun b hb => .inr (by omega)
    · by_cases hnf : q1.next = q1.fin
      · have HOV : Hid (overQ q1 = { q1 with done := true, next := addS q1.next 1 }) := by show _ = _; unfold overQ; rw [if_pos ⟨hkn, hnf⟩]
        have hb : (q1.next == q1.fin) = true := by simp [hnf]
        obtain ⟨nx, hnx⟩ : ∃ nx, q1.next = nx := ⟨_, rfl⟩
        obtain ⟨fi, hfi⟩ : ∃ fi, q1.fin = fi := ⟨_, rfl⟩
        have HNX := Lib.hid hnx
        rw [hnx, hfi] at hb
        rw [hnx] at c0
        rw [hfi] at c4
        have HBEQ := Lib.hid hb
        clear hkn hnf hnx hfi
        go_upto_region 11 with (fail)
        clear c0 c1 c2 c3 c4 c5 hb
        go_upto_region 12 with (first | (refine wpList_store_fld rfl 4 _ _ rfl (w.heap.size) 5 rfl (.bool true) rfl 29 (rqC q1 vD vA) HX7.out (by show 5 < 6; omega) (by kernel_rfl) (rfl) (rqC { q1 with done := true } vD vA) rfl ?_; obtain ⟨w8, hw8⟩ : ∃ x, w6.setRow (w.heap.size) (rqC { q1 with done := true } vD vA) = x := ⟨_, rfl⟩; have HXw8 : Hid (w8.heap[w.heap.size]? = some (.cells (rqC { q1 with done := true } vD vA) 29 (0, 0))) := (by rw [← hw8]; exact setRow_heap _ _ _ _ _ _ HX7.out); have HZ7w8 : Hid (w8.heap[w.heap.size + 1]? = some (.cells (Zrq) 29 (0, 0))) := (by rw [← hw8]; exact (setRow_other _ _ _ _ (by omega)).trans HZ7.out); have HR8 : Hid (Rvs w8 (fun b => w.heap.size + 2 ≤ b) (rqC q1 vD vA).toList (rqD q1)) := (by rw [← hw8]; exact HR7.out.setRow (by omega) _); have HBw8 : Hid (Below w.heap.size w w8) := (by rw [← hw8]; exact below_setRow HB7.out (Nat.le_refl _) _); have HKw8 : Hid (Keeps w6 w8) := (by rw [← hw8]; exact Keeps.other HX7.out (by decide) fun j hj => setRow_other _ _ _ _ hj); have HSZw8 : Hid (w6.heap.size ≤ w8.heap.size) := (by show w6.heap.size ≤ w8.heap.size; rw [← hw8]; simp [World.setRow]); have HWw8 := Lib.hid hw8; clear hw8; rw [HWw8.out]; clear HWw8) | go_in)
        have d0 : w8.cell? ⟨w.heap.size, 0, none⟩ = some (.int .u32 q1.next) := by rw [cell_of_row _ _ _ _ _ _ HXw8.out]; rfl
        go_wp2_with fail
        refine (seqadd_any _ _ _).mono ?_
        rintro en w9 ⟨rfl, rfl⟩
        clear d0
        go_upto_region 13 with (first | (refine wpList_store_fld rfl 22 _ _ rfl (w.heap.size) 0 rfl (.int .u32 (addS q1.next 1)) rfl 29 (rqC { q1 with done := true } vD vA) HXw8.out (by show 0 < 6; omega) (by kernel_rfl) (rfl) (rqC { q1 with done := true, next := addS q1.next 1 } vD vA) rfl ?_; obtain ⟨w9, hw9⟩ : ∃ x, w8.setRow (w.heap.size) (rqC { q1 with done := true, next := addS q1.next 1 } vD vA) = x := ⟨_, rfl⟩; have HXw9 : Hid (w9.heap[w.heap.size]? = some (.cells (rqC { q1 with done := true, next := addS q1.next 1 } vD vA) 29 (0, 0))) := (by rw [← hw9]; exact setRow_heap _ _ _ _ _ _ HXw8.out); have HZ7w8w9 : Hid (w9.heap[w.heap.size + 1]? = some (.cells (Zrq) 29 (0, 0))) := (by rw [← hw9]; exact (setRow_other _ _ _ _ (by omega)).trans HZ7w8.out); have HR9 : Hid (Rvs w9 (fun b => w.heap.size + 2 ≤ b) (rqC q1 vD vA).toList (rqD q1)) := (by rw [← hw9]; exact HR8.out.setRow (by omega) _); have HBw9 : Hid (Below w.heap.size w w9) := (by rw [← hw9]; exact below_setRow HBw8.out (Nat.le_refl _) _); have HKw9 : Hid (Keeps w8 w9) := (by rw [← hw9]; exact Keeps.other HXw8.out (by decide) fun j hj => setRow_other _ _ _ _ hj); have HSZw9 : Hid (w8.heap.size ≤ w9.heap.size) := (by show w8.heap.size ≤ w9.heap.size; rw [← hw9]; simp [World.setRow]); have HWw9 := Lib.hid hw9; clear hw9; rw [HWw9.out]; clear HWw9) | go_in)
        go_wp2_with (first | (refine wpList_load_row rfl 29 _ rfl (w.heap.size) rfl 29 (rqC { q1 with done := true, next := addS q1.next 1 } vD vA) (0, 0) _ HXw9.out Try.underlying29 rfl (by kernel_rfl) ?_) | (refine wpList_store_row rfl 29 _ _ rfl (w.heap.size + 1) (rqC { q1 with done := true, next := addS q1.next 1 } vD vA) rfl rfl 29 (Zrq) HZ7w8w9.out (by kernel_rfl) rfl ((HOO.out { q1 with done := true, next := addS q1.next 1 })) ?_))
        (try simp only [Exit.inBlock, Exit.then])
        refine ret_one (g := w.heap.size + 1) rfl rfl (setRow_heap _ _ _ _ _ _ HZ7w8w9.out) Try.underlying29 rfl (by kernel_rfl) rfl ?_
        refine ⟨_, rfl, ?_, below_setRow HBw9.out (by omega) _⟩
        rw [HQ2.out, HOV.out]
        exact rq_make (q := { q1 with done := true, next := addS q1.next 1 }) ((rq_data (HR9.out.setRow (by omega) _)).wide fun b hb => .inr (by omega)) ((rq_ahead (HR9.out.setRow (by omega) _)).wide fun b hb => .inr (by omega))
      · have HOV : Hid (overQ q1 = q1) := by show _ = _; unfold overQ; rw [if_neg (fun h => hnf h.2)]
        have hb : (q1.next == q1.fin) = false := by simp [hnf]
        clear hkn hnf
        go_wp2_with (first | (refine wpList_load_row rfl 29 _ rfl (w.heap.size) rfl 29 (rqC q1 vD vA) (0, 0) _ HX7.out Try.underlying29 rfl (by kernel_rfl) ?_) | (refine wpList_store_row rfl 29 _ _ rfl (w.heap.size + 1) (rqC q1 vD vA) rfl rfl 29 (Zrq) HZ7.out (by kernel_rfl) rfl ((HOO.out q1)) ?_))
        (try simp only [Exit.inBlock, Exit.then])
        refine ret_one (g := w.heap.size + 1) rfl rfl (setRow_heap _ _ _ _ _ _ HZ7.out) Try.underlying29 rfl (by kernel_rfl) rfl ?_
        refine ⟨_, rfl, ?_, below_setRow HB7.out (by omega) _⟩
        rw [HQ2.out, HOV.out]
        exact (HR7.out.setRow (by omega) _).wide fun b hb => .inr (by omega)
  · obtain ⟨hl1, p0, r, hl2, hl3, hl4, hl5⟩ := HLAY.out (by rw [HM.out]; exact hm0)
    have HL1 := Lib.hid hl1
    have HL2 := Lib.hid hl2
    have HGQ : Hid (gotQ q1 p = settleQ q1 (p0 :: r)) := by show _ = _; unfold gotQ; rw [if_pos (by rw [HM.out]; exact hm0), HKD.out.2.1, hl2]
    clear hl1 hl2
    go_upto_region 9 with (fail)
    have HX9 := HX6
    apply wp_region_relyG [5, 6] (fun L w' => Below w.heap.size w w' ∧ w'.heap[w.heap.size + 1]? = some (.cells Zrq 29 (0, 0)) ∧ lo2 ≤ w'.heap.size ∧ (L 6 = false → w'.heap[w.heap.size]? = some (.cells (rqC q1 vD vA) 29 (0, 0))) ∧ (L 6 = true → ∃ cs9 : Array Value, w'.heap[w.heap.size]? = some (.cells cs9 29 (0, 0)) ∧ Rvs w' (fun b => w.heap.size + 2 ≤ b) cs9.toList (rqD (gotQ q1 p))) ∧ (L 5 = false → L 6 = false → Below w6.heap.size w6 w')) (RL [Is (.agg (rqC q1 vD vA)), Is _, Is vA, Is (.agg #[.int .u32 sp, .slice Ap m cp]), PcsP lo2 (layQ q.ahead p), Rd1 (fun b => w.heap.size + 2 ≤ b) (rqD (gotQ q1 p)), Any]) [false, false, false, false, false, false, false, false, false, false, false, false, false, false, false, false, false, false, false, false, false, false, false, false, false, false, false, false, false, false, false, false, false, false, false, false, false, false, false, false, false, false, true, true, true, true, true, true, false, false, false, false, false, false, false, false, false, false, false, false, false, false, false]
    · kernel_rfl
    · kernel_rfl
    · kernel_rfl
    · refine ⟨?_, ?_, ?_, ?_, ?_, ?_, ?_, trivial⟩
      · intro L ev w' hC hL hx K hK
        have e4 : ev (.tmp 4) = _ := hx.base 4 (by kernel_rfl)
        have HK := Lib.hid hK
        have HC := Lib.hid hC
        have HL := Lib.hid hL
        have HX6 := Lib.hid hx
        have hc := hx.cst
        skip
        clear hx hK hC hL
        have n5 : L 5 = false := Bool.eq_false_iff.2 fun h => by
          have h0 := h
          have h1 := HX6.out.closed 5 _ 0 rfl h0 (by kernel_rfl)
          rw [HL.out] at h1
          cases h1
        have n6 : L 6 = false := Bool.eq_false_iff.2 fun h => by
          have h5 := HX6.out.closed 6 _ 5 rfl h (by kernel_rfl)
          rw [n5] at h5
          cases h5
        have HBE := Lib.hid (HC.out.2.2.2.2.2 n5 n6)
        clear n5 n6
        have qz : ev (.tmp 4) = .pointer (some ⟨w.heap.size, 0, none⟩) := e4
        have hld := run_loadVar_row (P := Try.prog) w' w.heap.size 29 29 (rqC q1 vD vA) (0, 0) _ (old_below HX9.out HBE.out (row_lt HX9.out)) Try.underlying29 rfl (by kernel_rfl)
        unfold Run
        rw [run_loadE 29 _ rfl qz hld]
        exact HK.out _ _ (.inl ⟨Below.refl _ _, by decide⟩) rfl
      · intro L ev w' hC hL hx K hK
        have e4 : ev (.tmp 4) = _ := hx.base 4 (by kernel_rfl)
        have HK := Lib.hid hK
        have HC := Lib.hid hC
        have HL := Lib.hid hL
        have HX6 := Lib.hid hx
        have hc := hx.cst
        skip
        clear hx hK hC hL
        unfold Run
        simp [execOp, Upon, go_sem, *]
        exact HK.out _ _ (.inl ⟨Below.refl _ _, by decide⟩) rfl
      · intro L ev w' hC hL hx K hK
        have e43 := hx.held 1 _ rfl (by kernel_rfl)
        change ev (.tmp 43) = _ at e43
        have HK := Lib.hid hK
        have HC := Lib.hid hC
        have HL := Lib.hid hL
        have HX6 := Lib.hid hx
        have hc := hx.cst
        skip
        clear hx hK hC hL
        have n5 : L 5 = false := Bool.eq_false_iff.2 fun h => by
          have h0 := h
          have h1 := HX6.out.closed 5 _ 4 rfl h0 (by kernel_rfl)
          have h2 := HX6.out.closed 4 _ 2 rfl h1 (by kernel_rfl)
          rw [HL.out] at h2
          cases h2
        have n6 : L 6 = false := Bool.eq_false_iff.2 fun h => by
          have h5 := HX6.out.closed 6 _ 5 rfl h (by kernel_rfl)
          rw [n5] at h5
          cases h5
        have HBE := Lib.hid (HC.out.2.2.2.2.2 n5 n6)
        clear n5 n6
        have c2 := cell_of_row _ _ 2 _ _ _ (old_below HX9.out HBE.out (row_lt HX9.out))
        rw [show (rqC q1 vD vA)[2]? = some vA from rfl] at c2
        unfold Run
        simp [execOp, Upon, go_sem, *]
        exact HK.out _ _ (.inl ⟨Below.refl _ _, by decide⟩) rfl
      · intro L ev w' hC hL hx K hK
        have e10 : ev (.tmp 10) = _ := hx.base 10 (by kernel_rfl)
        have HK := Lib.hid hK
        have HC := Lib.hid hC
        have HL := Lib.hid hL
        have HX6 := Lib.hid hx
        have hc := hx.cst
        skip
        clear hx hK hC hL
        have n5 : L 5 = false := Bool.eq_false_iff.2 fun h => by
          have h0 := h
          have h1 := HX6.out.closed 5 _ 4 rfl h0 (by kernel_rfl)
          have h2 := HX6.out.closed 4 _ 3 rfl h1 (by kernel_rfl)
          rw [HL.out] at h2
          cases h2
        have n6 : L 6 = false := Bool.eq_false_iff.2 fun h => by
          have h5 := HX6.out.closed 6 _ 5 rfl h (by kernel_rfl)
          rw [n5] at h5
          cases h5
        have HBE := Lib.hid (HC.out.2.2.2.2.2 n5 n6)
        clear n5 n6
        have qz : ev (.tmp 10) = .pointer (some ⟨g, 0, none⟩) := e10
        have hld := run_loadVar_row (P := Try.prog) w' g 55 55 #[.int .u32 sp, .slice Ap m cp] (0, 0) _ (old_below HP6.out HBE.out (row_lt HP6.out)) Try.underlying55 rfl (by kernel_rfl)
        unfold Run
        rw [run_loadE 55 _ rfl qz hld]
        exact HK.out _ _ (.inl ⟨Below.refl _ _, by decide⟩) rfl
      · intro L ev w' hC hL hx K hK
        have e44 := hx.held 2 _ rfl (by kernel_rfl)
        have e45 := hx.held 3 _ rfl (by kernel_rfl)
        change ev (.tmp 44) = _ at e44
        change ev (.tmp 45) = _ at e45
        have HK := Lib.hid hK
        have HC := Lib.hid hC
        have HL := Lib.hid hL
        have HX6 := Lib.hid hx
        have hc := hx.cst
        have hf := hx.fn
        clear hx hK hC hL
        have n5 : L 5 = false := Bool.eq_false_iff.2 fun h => by
          have h0 := h
          have h1 := HX6.out.closed 5 _ 4 rfl h0 (by kernel_rfl)
          rw [HL.out] at h1
          cases h1
        have n6 : L 6 = false := Bool.eq_false_iff.2 fun h => by
          have h5 := HX6.out.closed 6 _ 5 rfl h (by kernel_rfl)
          rw [n5] at h5
          cases h5
        have HBE := Lib.hid (HC.out.2.2.2.2.2 n5 n6)
        clear n5 n6
        have hcl := lay_any lo2 q.ahead vA p (.slice Ap m cp) S2 w' (Nat.le_trans HL6.out HBE.out.size) (by rw [← HKD.out.2.1]; exact HA6.out.keeps (Keeps.below HBE.out (Nat.le_refl _))) (rv_below HVP.out HBE.out) (by rw [HM.out]; exact hm0) (by rw [HM.out]; exact hpl) hal HL1.out
        rw [HSP.out] at hcl
        have HCL := Lib.hid hcl
        clear hcl
        unfold Run
        simp [execOp, Upon, go_sem, *]
        refine HCL.out.mono ?_
        rintro en w2 ⟨v9, rfl, hv9, hb9⟩
        exact ⟨v9, rfl, HK.out _ _ (.inl ⟨hb9, by decide⟩) hv9⟩
      · intro L ev w' hC hL hx K hK
        have e42 := hx.held 0 _ rfl (by kernel_rfl)
        have e46 := hx.held 4 _ rfl (by kernel_rfl)
        change ev (.tmp 42) = _ at e42
        change (PcsP lo2 (layQ q.ahead p) : Pred) (ev (.tmp 46)) w' at e46
        have HK := Lib.hid hK
        have HC := Lib.hid hC
        have HL := Lib.hid hL
        have HX6 := Lib.hid hx
        have hc := hx.cst
        have hf := hx.fn
        clear hx hK hC hL
        have n6 : L 6 = false := Bool.eq_false_iff.2 fun h => by
          have h5 := HX6.out.closed 6 _ 5 rfl h (by kernel_rfl)
          rw [HL.out] at h5
          cases h5
        have HBE := Lib.hid (HC.out.2.2.2.2.2 HL.out n6)
        have e46' : PcsT lo2 w' (ev (.tmp 46)) (layQ q.ahead p) := e46
        rw [HL2.out] at e46'
        have hcl := settle_any (w.heap.size + 2) lo2 q1 vD vA (ev (.tmp 46)) p0 r w' (ownk_below HD6.out HBE.out (Nat.le_refl _)) HDL.out (HA6.out.keeps (Keeps.below HBE.out (Nat.le_refl _))) e46' HLO.out (Nat.le_trans HL6.out HBE.out.size) hdl1 hl3 hl4 hl5
        rw [← HGQ.out] at hcl
        have HCL := Lib.hid hcl
        have HVB : Hid (∀ k, vD.ownBlock = some k → w.heap.size + 2 ≤ k) := fun k hk => (HD6.out.lt k hk).1
        have HC9 := Lib.hid HC.out
        have HN6 := Lib.hid n6
        have HLL := Lib.hid HL.out
        clear hcl n6 e46'
        unfold Run
        simp [execOp, Upon, go_sem, *]
        refine HCL.out.mono ?_
        rintro en w2 ⟨cs9, rfl, hr9, hg9⟩
        refine ⟨_, rfl, HK.out _ _ (.inr ⟨⟨HC9.out.1.grown hg9 HC9.out.1.size (fun k hk => by have := HVB.out k hk; omega), (hg9.block _ (row_lt HC9.out.2.1) fun e => by have := HVB.out _ e.symm; omega).trans HC9.out.2.1, Nat.le_trans HC9.out.2.2.1 hg9.size, fun h => (hg9.block _ (row_lt (HC9.out.2.2.2.1 HN6.out)) fun e => by have := HVB.out _ e.symm; omega).trans (HC9.out.2.2.2.1 HN6.out), fun h => ?_, fun h => by simp [upd] at h⟩, fun j hj hlj u hr => ?_⟩) ⟨cs9, rfl, hr9⟩⟩
        · simp [upd] at h
          rw [HN6.out] at h
          cases h
        · rcases j with _ | _ | _ | _ | _ | _ | _ | j
          · exact hr
          · exact hr
          · exact hr
          · exact hr
          · exact PcsT.grown hr hg9 HDL.out
          · exact absurd rfl hj
          · exact trivial
          · exact trivial
      · intro L ev w' hC hL hx K hK
        have e4 : ev (.tmp 4) = _ := hx.base 4 (by kernel_rfl)
        have e47 := hx.held 5 _ rfl (by kernel_rfl)
        change (Rd1 (fun b => w.heap.size + 2 ≤ b) (rqD (gotQ q1 p)) : Pred) (ev (.tmp 47)) w' at e47
        have HK := Lib.hid hK
        have HC := Lib.hid hC
        have HL := Lib.hid hL
        have HX6 := Lib.hid hx
        have hc := hx.cst
        skip
        clear hx hK hC hL
        obtain ⟨cs9, q47, hr9⟩ := e47
        have hgb := HC.out.2.2.2.1 HL.out
        have hs9 : cs9.size = 6 := hr9.1
        have h19 : cs9.all (·.oneCell') = true := Array.all_eq_true_iff_forall_mem.2 fun u hu => hr9.ones u (by simpa using hu)
        have hrun := run_storeVar_row (P := Try.prog) w' w.heap.size 29 29 (rqC q1 vD vA) cs9 hgb (by rw [hs9]; kernel_rfl) (by rw [hs9]; rfl) h19
        have HC9 := Lib.hid HC.out
        have HGB := Lib.hid hgb
        have HR9' := Lib.hid hr9
        clear hgb hr9 h19 hs9
        unfold Run
        rw [run_storeE 29 _ _ rfl e4 q47 hrun]
        refine HK.out _ _ (.inr ⟨⟨below_setRow HC9.out.1 (Nat.le_refl _) _, (setRow_other _ _ _ _ (by omega)).trans HC9.out.2.1, by simp [World.setRow]; exact HC9.out.2.2.1, fun h => by simp [upd] at h, fun _ => ⟨cs9, setRow_heap _ _ _ _ _ _ HGB.out, HR9'.out.setRow (by omega) _⟩, fun _ h => by simp [upd] at h⟩, fun j hj hlj u hr => ?_⟩) trivial
        · rcases j with _ | _ | _ | _ | _ | _ | _ | j
          · exact hr
          · exact hr
          · exact hr
          · exact hr
          · exact PcsT.keeps hr (Keeps.other HGB.out (by decide) fun j hj => setRow_other _ _ _ _ hj)
          · exact rd1_set hr (by omega) _
          · exact absurd rfl hj
          · exact trivial
    · exact rl_mono ⟨is_mono _, is_mono _, is_mono _, is_mono _, pcsp_mono _ _, rd1_mono _ _, any_mono, trivial⟩
    · exact fun L L' w1 he h => ⟨h.1, h.2.1, h.2.2.1, fun hl => h.2.2.2.1 ((he 6 (by simp)).trans hl), fun hl => h.2.2.2.2.1 ((he 6 (by simp)).trans hl), fun hl hm => h.2.2.2.2.2 ((he 5 (by simp)).trans hl) ((he 6 (by simp)).trans hm)⟩
    · exact fun L w1 w2 hb h => ⟨h.1.trans (hb.mono h.1.size), old_below h.2.1 hb (row_lt h.2.1), Nat.le_trans h.2.2.1 hb.size, fun hl => old_below (h.2.2.2.1 hl) hb (row_lt (h.2.2.2.1 hl)), fun hl => by obtain ⟨cs9, h1, h2⟩ := h.2.2.2.2.1 hl; exact ⟨cs9, old_below h1 hb (row_lt h1), rvs_below h2 hb⟩, fun hl hm => (h.2.2.2.2.2 hl hm).trans (hb.mono (h.2.2.2.2.2 hl hm).size)⟩
    · exact ⟨HB6.out, HZ6.out, HL6.out, fun _ => HX9.out, (fun h => by cases h), fun _ _ => Below.refl _ _⟩
    · simp
    intro us wr hG hH
    obtain ⟨-, -, -, -, -, -, -, -⟩ := hH
    simp only [fillM]
    generalize us 42 = v42
    generalize us 43 = v43
    generalize us 44 = v44
    generalize us 45 = v45
    generalize us 46 = v46
    generalize us 47 = v47
    obtain ⟨g1, g2, _, _, g5, _⟩ := hG
    obtain ⟨cs7, g6, g7⟩ := g5 rfl
    obtain ⟨vD2, vA2, rfl, -⟩ := rq_of g7
    have HX7 := Lib.hid g6
    have HR7 := Lib.hid g7
    have HZ7 := Lib.hid g2
    have HB7 := Lib.hid g1
    clear g1 g2 g5 g6 g7
    obtain ⟨q2, hq2⟩ : ∃ q2, gotQ q1 p = q2 := ⟨_, rfl⟩
    rw [hq2] at HX7 HR7
    have HQ2 := Lib.hid hq2
    clear hq2
    obtain ⟨c0, c1, c2, c3, c4, c5⟩ := rq_cells HX7.out
    have HOO : Hid (∀ x : Rq, (rqC x vD2 vA2).all (·.oneCell') = true) := fun x => rqc_ones (rq_data HR7.out).one (rq_ahead HR7.out).one
    obtain ⟨kn, hkn⟩ : ∃ kn, q2.known = kn := ⟨_, rfl⟩
    rw [hkn] at c3
    cases kn
    · have HOV : Hid (overQ q2 = q2) := by show _ = _; unfold overQ; rw [if_neg (fun h => by rw [hkn] at h; cases h.1)]
      clear hkn
      go_wp2_with (first | (refine wpList_load_row rfl 29 _ rfl (w.heap.size) rfl 29 (rqC q2 vD2 vA2) (0, 0) _ HX7.out Try.underlying29 rfl (by kernel_rfl) ?_) | (refine wpList_store_row rfl 29 _ _ rfl (w.heap.size + 1) (rqC q2 vD2 vA2) rfl rfl 29 (Zrq) HZ7.out (by kernel_rfl) rfl ((HOO.out q2)) ?_))
      (try simp only [Exit.inBlock, Exit.then])
      refine ret_one (g := w.heap.size + 1) rfl rfl (setRow_heap _ _ _ _ _ _ HZ7.out) Try.underlying29 rfl (by kernel_rfl) rfl ?_
      refine ⟨_, rfl, ?_, below_setRow HB7.out (by omega) _⟩
      rw [HQ2.out, HOV.out]
      exact (HR7.out.setRow (by omega) _).wide fun b hb => .inr (by omega)
    · by_cases hnf : q2.next = q2.fin
      · have HOV : Hid (overQ q2 = { q2 with done := true, next := addS q2.next 1 }) := by show _ = _; unfold overQ; rw [if_pos ⟨hkn, hnf⟩]
        have hb : (q2.next == q2.fin) = true := by simp [hnf]
        obtain ⟨nx, hnx⟩ : ∃ nx, q2.next = nx := ⟨_, rfl⟩
        obtain ⟨fi, hfi⟩ : ∃ fi, q2.fin = fi := ⟨_, rfl⟩
        have HNX := Lib.hid hnx
        rw [hnx, hfi] at hb
        rw [hnx] at c0
        rw [hfi] at c4
        have HBEQ := Lib.hid hb
        clear hkn hnf hnx hfi
        go_upto_region 11 with (fail)
        clear c0 c1 c2 c3 c4 c5 hb
        go_upto_region 12 with (first | (refine wpList_store_fld rfl 4 _ _ rfl (w.heap.size) 5 rfl (.bool true) rfl 29 (rqC q2 vD2 vA2) HX7.out (by show 5 < 6; omega) (by kernel_rfl) (rfl) (rqC { q2 with done := true } vD2 vA2) rfl ?_; obtain ⟨w8, hw8⟩ : ∃ x, wr.setRow (w.heap.size) (rqC { q2 with done := true } vD2 vA2) = x := ⟨_, rfl⟩; have HXw8 : Hid (w8.heap[w.heap.size]? = some (.cells (rqC { q2 with done := true } vD2 vA2) 29 (0, 0))) := (by rw [← hw8]; exact setRow_heap _ _ _ _ _ _ HX7.out); have HZ7w8 : Hid (w8.heap[w.heap.size + 1]? = some (.cells (Zrq) 29 (0, 0))) := (by rw [← hw8]; exact (setRow_other _ _ _ _ (by omega)).trans HZ7.out); have HR8 : Hid (Rvs w8 (fun b => w.heap.size + 2 ≤ b) (rqC q2 vD2 vA2).toList (rqD q2)) := (by rw [← hw8]; exact HR7.out.setRow (by omega) _); have HBw8 : Hid (Below w.heap.size w w8) := (by rw [← hw8]; exact below_setRow HB7.out (Nat.le_refl _) _); have HKw8 : Hid (Keeps wr w8) := (by rw [← hw8]; exact Keeps.other HX7.out (by decide) fun j hj => setRow_other _ _ _ _ hj); have HSZw8 : Hid (wr.heap.size ≤ w8.heap.size) := (by show wr.heap.size ≤ w8.heap.size; rw [← hw8]; simp [World.setRow]); have HWw8 := Lib.hid hw8; clear hw8; rw [HWw8.out]; clear HWw8) | go_in)
        have d0 : w8.cell? ⟨w.heap.size, 0, none⟩ = some (.int .u32 q2.next) := by rw [cell_of_row _ _ _ _ _ _ HXw8.out]; rfl
        go_wp2_with fail
        refine (seqadd_any _ _ _).mono ?_
        rintro en w9 ⟨rfl, rfl⟩
        clear d0
        go_upto_region 13 with (first | (refine wpList_store_fld rfl 22 _ _ rfl (w.heap.size) 0 rfl (.int .u32 (addS q2.next 1)) rfl 29 (rqC { q2 with done := true } vD2 vA2) HXw8.out (by show 0 < 6; omega) (by kernel_rfl) (rfl) (rqC { q2 with done := true, next := addS q2.next 1 } vD2 vA2) rfl ?_; obtain ⟨w9, hw9⟩ : ∃ x, w8.setRow (w.heap.size) (rqC { q2 with done := true, next := addS q2.next 1 } vD2 vA2) = x := ⟨_, rfl⟩; have HXw9 : Hid (w9.heap[w.heap.size]? = some (.cells (rqC { q2 with done := true, next := addS q2.next 1 } vD2 vA2) 29 (0, 0))) := (by rw [← hw9]; exact setRow_heap _ _ _ _ _ _ HXw8.out); have HZ7w8w9 : Hid (w9.heap[w.heap.size + 1]? = some (.cells (Zrq) 29 (0, 0))) := (by rw [← hw9]; exact (setRow_other _ _ _ _ (by omega)).trans HZ7w8.out); have HR9 : Hid (Rvs w9 (fun b => w.heap.size + 2 ≤ b) (rqC q2 vD2 vA2).toList (rqD q2)) := (by rw [← hw9]; exact HR8.out.setRow (by omega) _); have HBw9 : Hid (Below w.heap.size w w9) := (by rw [← hw9]; exact below_setRow HBw8.out (Nat.le_refl _) _); have HKw9 : Hid (Keeps w8 w9) := (by rw [← hw9]; exact Keeps.other HXw8.out (by decide) fun j hj => setRow_other _ _ _ _ hj); have HSZw9 : Hid (w8.heap.size ≤ w9.heap.size) := (by show w8.heap.size ≤ w9.heap.size; rw [← hw9]; simp [World.setRow]); have HWw9 := Lib.hid hw9; clear hw9; rw [HWw9.out]; clear HWw9) | go_in)
        go_wp2_with (first | (refine wpList_load_row rfl 29 _ rfl (w.heap.size) rfl 29 (rqC { q2 with done := true, next := addS q2.next 1 } vD2 vA2) (0, 0) _ HXw9.out Try.underlying29 rfl (by kernel_rfl) ?_) | (refine wpList_store_row rfl 29 _ _ rfl (w.heap.size + 1) (rqC { q2 with done := true, next := addS q2.next 1 } vD2 vA2) rfl rfl 29 (Zrq) HZ7w8w9.out (by kernel_rfl) rfl ((HOO.out { q2 with done := true, next := addS q2.next 1 })) ?_))
        (try simp only [Exit.inBlock, Exit.then])
        refine ret_one (g := w.heap.size + 1) rfl rfl (setRow_heap _ _ _ _ _ _ HZ7w8w9.out) Try.underlying29 rfl (by kernel_rfl) rfl ?_
        refine ⟨_, rfl, ?_, below_setRow HBw9.out (by omega) _⟩
        rw [HQ2.out, HOV.out]
        exact rq_make (q := { q2 with done := true, next := addS q2.next 1 }) ((rq_data (HR9.out.setRow (by omega) _)).wide fun b hb => .inr (by omega)) ((rq_ahead (HR9.out.setRow (by omega) _)).wide fun b hb => .inr (by omega))
      · have HOV : Hid (overQ q2 = q2) := by show _ = _; unfold overQ; rw [if_neg (fun h => hnf h.2)]
        have hb : (q2.next == q2.fin) = false := by simp [hnf]
        clear hkn hnf
        go_wp2_with (first | (refine wpList_load_row rfl 29 _ rfl (w.heap.size) rfl 29 (rqC q2 vD2 vA2) (0, 0) _ HX7.out Try.underlying29 rfl (by kernel_rfl) ?_) | (refine wpList_store_row rfl 29 _ _ rfl (w.heap.size + 1) (rqC q2 vD2 vA2) rfl rfl 29 (Zrq) HZ7.out (by kernel_rfl) rfl ((HOO.out q2)) ?_))
        (try simp only [Exit.inBlock, Exit.then])
        refine ret_one (g := w.heap.size + 1) rfl rfl (setRow_heap _ _ _ _ _ _ HZ7.out) Try.underlying29 rfl (by kernel_rfl) rfl ?_
        refine ⟨_, rfl, ?_, below_setRow HB7.out (by omega) _⟩
        rw [HQ2.out, HOV.out]
        exact (HR7.out.setRow (by omega) _).wide fun b hb => .inr (by omega)
end Go.Proofs.Ytdgfhcojmfgimaa
