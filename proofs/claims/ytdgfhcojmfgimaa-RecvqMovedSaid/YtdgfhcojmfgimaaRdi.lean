/-
  recvq.Right: what may be is right. Every state that may be.
-/
import Derived.Test.YtdgfhcojmfgimaaRdp
import Derived.Test.YtdgfhcojmfgimaaRdg
namespace Go.Proofs.Ytdgfhcojmfgimaa
open Go.RowKit

theorem gap_at {ps : List Rn} (h : ps.Pairwise (fun p q : Rn => p.1 + p.2.length < q.1)) {k : Nat} {p q : Rn} (hp : ps[k]? = some p) (hq : ps[k + 1]? = some q) : p.1 + p.2.length < q.1 := by
  obtain ⟨h1, e1⟩ := List.getElem?_eq_some_iff.1 hp
  obtain ⟨h2, e2⟩ := List.getElem?_eq_some_iff.1 hq
  have := List.pairwise_iff_getElem.1 h k (k + 1) h1 h2 (by omega)
  rw [e1, e2] at this
  exact this
theorem runs_eight {x : Rx} (h : OkX x) : (runsL 0 x.got).length ≤ 8 := by
  have h1 := runs_count x.got 0
  have h2 := h.runs
  have h3 := h.front
  generalize x.got = l at h1 h2 h3 ⊢
  rw [h1]
  cases l with
  | nil => simp only; omega
  | cons c l =>
    have := h3 c rfl
    simp only
    rw [if_neg (by omega)]
    omega
set_option maxRecDepth 100000 in
set_option maxHeartbeats 4000000 in
theorem right17 (x : Rx) (cs : Array Value) (S : Nat → Prop) (w : World) (hr : Rvs w S cs.toList (rqD (conc x))) (hx : OkX x) : Calls Try.prog 17 #[.agg cs] w fun e w' => e = .returned (.bool true) ∧ Below w.heap.size w w' := by
  obtain ⟨vD, vA, rfl, -⟩ := rq_of hr
  have hD := rq_data hr
  have hAh := rq_ahead hr
  obtain ⟨A, c, rfl, -, h92, h93, h94⟩ := rv_bytes.1 hD
  obtain ⟨Aa, ca, rfl, hA1, hA2, hA3, hA4⟩ := pc_elem hAh
  obtain ⟨ps, hps⟩ : ∃ ps, runsL 0 x.got = ps := ⟨_, rfl⟩
  have hah : (conc x).ahead = ps.map (mkP x.next) := by rw [← hps]; rfl
  have hg : GRuns x.got ps := by rw [← hps]; exact runs_g (got_le hx)
  have hn8 : ps.length ≤ 8 := by rw [← hps]; exact runs_eight hx
  obtain ⟨n, hn⟩ : ∃ n, (conc x).ahead.length = n := ⟨_, rfl⟩
  have hnp : ps.length = n := by rw [← hn, hah, List.length_map]
  obtain ⟨d, hd⟩ : ∃ d, (conc x).data.length = d := ⟨_, rfl⟩
  have hdx : x.data.length = d := hd
  have hd256 : d ≤ 256 := by rw [← hdx]; exact hx.data
  rw [hn] at hA2 hr hAh ⊢
  rw [hd] at h93 hr hD ⊢
  have hc63 : c ≤ 9223372036854775807 := by unfold maxLen at h94; omega
  have hca63 : ca ≤ 9223372036854775807 := by unfold maxLen at hA3; omega
  have HWIN := Lib.hid (fun W (hb : Below w.heap.size w W) => win17 (conc x) (.slice A d c) (.slice Aa n ca) S W (rv_below hD hb) (by rw [hd]; omega))
  rw [hd] at HWIN
  have hel : ∀ (k : Nat) p, ps[k]? = some p → ∃ ad B e, Aa = some ad ∧ w.cell? (ad.add (k * 2)) = some (.int .u32 (addS x.next p.1)) ∧ w.cell? ((ad.add (k * 2)).add 1) = some (.slice B p.2.length e) ∧ p.2.length ≤ e ∧ e ≤ maxLen := fun k p hp => by
    obtain ⟨ad, B, e, h1, _, h2, h3, h4⟩ := hA4 k (mkP x.next p) (by rw [hah, List.getElem?_map, hp]; rfl)
    obtain ⟨B', e', h5, _, _, h6, h7⟩ := rv_bytes.1 h4
    injection h5 with _ _ h5
    subst h5
    exact ⟨ad, B, e, h1, h2, h3, h6, h7⟩
  have HEL := Lib.hid hel
  have HG := Lib.hid hg
  have HNP := Lib.hid hnp
  have HX0 := Lib.hid hx
  have HDX2 := Lib.hid hdx
  have hn8' : n ≤ 8 := by omega
  obtain ⟨dn, hdn⟩ : ∃ dn, x.done = dn := ⟨_, rfl⟩
  have HDN := Lib.hid hdn
  have hkn : (conc x).known = decide (0 ≤ x.fin) := rfl
  have hnx : (conc x).next = x.next := rfl
  have hdd : (conc x).done = dn := hdn
  clear hr hAh hD h92 h94 hA1 hA3 hA4 hel hg hnp hn hd hps hah hn8 hdx hdn
  obtain ⟨w1, hw1⟩ : ∃ w1, w.alloc (.cells (rqC (conc x) (.slice A d c) (.slice Aa n ca)) 29) = w1 := ⟨_, rfl⟩
  have HB : Hid (Below w.heap.size w w1) := by rw [← hw1]; exact (Below.refl _ _).alloc (Nat.le_refl _) _
  have HX : Hid (w1.heap[w.heap.size]? = some (.cells (rqC (conc x) (.slice A d c) (.slice Aa n ca)) 29 (0, 0))) := by rw [← hw1]; exact heap_alloc_new w _
  have HS1 : Hid (w1.heap.size = w.heap.size + 1) := by show _ = _; rw [← hw1]; simp
  have HW := Lib.hid hw1
  clear hw1
  go_enter Try.func17, Try.ntmps17
  go_upto_region 1 with (fail)
  change Code.wp _ _ _ _ (w.alloc (.cells (rqC (conc x) (.slice A d c) (.slice Aa n ca)) 29))
  rw [HW.out]
  clear HW
  obtain ⟨c0, c1, c2, c3, c4, c5⟩ := rq_cells HX.out
  rw [hkn] at c3
  rw [hnx] at c0
  rw [hdd] at c5
  have hdi : (d : Int) ≤ 256 := by omega
  have hni : (n : Int) ≤ 8 := by omega
  cases dn
  · have hfin : (conc x).fin = if 0 ≤ x.fin then addS x.next x.fin else 0 := by unfold conc; simp only; rw [HDN.out]; rfl
    rw [hfin] at c4
    obtain ⟨W0, hW0⟩ : ∃ W0 : Int, 256 - (d : Int) = W0 := ⟨_, rfl⟩
    rw [hW0] at HWIN
    have HWX : Hid (winX x = W0) := by show _ = _; rw [← hW0]; unfold winX; rw [HDX2.out]
    go_wp2
    go_loopw [3, 39] (fun t3 t39 wr => ∃ k f : Nat, k ≤ n ∧ t39 = .int .i64 (k : Int) ∧ t3 = .int .i64 (f : Int) ∧ (f : Int) ≤ W0 ∧ (0 ≤ x.fin → (f : Int) ≤ x.fin) ∧ Hid (∀ p, ps[k]? = some p → f < p.1) ∧ Hid (Below w.heap.size w wr) ∧ Hid (Below w1.heap.size w1 wr)) (fun _ t39 _ => n - (intOf t39).toNat)
    case atStart =>
      have hw0 : 0 ≤ W0 := by omega
      refine ⟨0, 0, Nat.zero_le _, rfl, rfl, hw0, fun h => h, Lib.hid (fun p hp => ?_), HB, Lib.hid (Below.refl _ _)⟩
      rcases Nat.eq_zero_or_pos p.1 with h0 | h0
      · have hm := List.mem_of_getElem? hp
        have hp0 := HG.out.pos hm
        obtain ⟨b, _, h2⟩ := HG.out.at_ hm (i := 0) (by omega) (by omega)
        have := HX0.out.front _ h2
        omega
      · exact h0
    case round =>
      obtain ⟨k, f, hk, rfl, rfl, hfW, hfF, HNX, HBW, HB1W⟩ := hrel
      by_cases hlt : k < n
      · obtain ⟨p, hp⟩ : ∃ p, ps[k]? = some p := ⟨_, List.getElem?_eq_getElem (by rw [HNP.out]; exact hlt)⟩
        obtain ⟨ad, B, e, rfl, e1, e2, e3, e4⟩ := HEL.out k p hp
        have hpm := List.mem_of_getElem? hp
        have hof := HNX.out p hp
        have hm0 := HG.out.pos hpm
        obtain ⟨bb, _, hbv⟩ := HG.out.at_ hpm (i := p.1 + p.2.length - 1) (by omega) (by omega)
        have hwv := HX0.out.win _ _ hbv (Int.natCast_nonneg _)
        have hfv := fun h => HX0.out.ahead h _ _ hbv (Int.natCast_nonneg _)
        rw [HWX.out] at hwv
        have HN2 : Hid (∀ q, ps[k + 1]? = some q → p.1 + p.2.length < q.1) := fun q hq => gap_at HG.out.gap hp hq
        obtain ⟨o, ho⟩ : ∃ o, p.1 = o := ⟨_, rfl⟩
        obtain ⟨m, hm⟩ : ∃ m, p.2.length = m := ⟨_, rfl⟩
        rw [ho] at e1 hof hwv hfv HN2
        rw [hm] at e2 e3 hm0 hwv hfv HN2
        have hom : (o : Int) + m ≤ W0 := by omega
        have hfo : 0 ≤ x.fin → (o : Int) + m ≤ x.fin := fun h => by have := hfv h; omega
        have HDF : Hid (diffS (addS x.next o) x.next = o) := diff_add (by omega)
        obtain ⟨sq, hsq⟩ : ∃ sq, addS x.next (o : Int) = sq := ⟨_, rfl⟩
        rw [hsq] at e1 HDF
        have HELX : Hid (∀ j v, ([.int .u32 sq, .slice B m e] : List Value)[j]? = some v → wr.cell? ((ad.add (k * 2)).add j) = some v) := by
          show ∀ j v, _
          intro j v hv
          rcases j with _ | _ | j
          · simp at hv
            rw [← hv]
            exact (HBW.out.cell (cell_lt e1)).trans e1
          · simp at hv
            rw [← hv]
            exact (HBW.out.cell (cell_lt e2)).trans e2
          · simp at hv
        have HADD : Hid (IntKind.i64.wrap ((o : Int) + (m : Int)) = o + m) := IntWalk.i64_in _ ⟨by omega, by omega⟩
        have HFF := Lib.hid hfo
        have he63 : e ≤ 9223372036854775807 := by unfold maxLen at e4; omega
        clear hp hpm hbv hwv hfv ho hm hsq e1 e2 e4 hfF hfo
        go_upto_region 9 with (first | refine wpList_load_at rfl 55 _ rfl (ad.add (k * 2)) rfl [.int .u32 sq, .slice B m e] _ HELX.out Try.underlying55 rfl (by kernel_rfl) ?_ | refine wpList_store_new rfl 55 _ _ rfl wr #[.int .u32 0, .slice none 0 0] #[.int .u32 sq, .slice B m e] rfl rfl (by kernel_rfl) rfl rfl ?_ | go_in)
        obtain ⟨b, hb⟩ : ∃ b, wr.heap.size = b := ⟨_, rfl⟩
        obtain ⟨w8, hw8⟩ : ∃ w8, wr.alloc (.cells #[.int .u32 sq, .slice B m e] 55) = w8 := ⟨_, rfl⟩
        have hb8 : Below wr.heap.size wr w8 := by rw [← hw8]; exact (Below.refl _ _).alloc (Nat.le_refl _) _
        have hg8 : w8.heap[b]? = some (.cells #[.int .u32 sq, .slice B m e] 55 (0, 0)) := by rw [← hw8, ← hb]; exact heap_alloc_new wr _
        have HB8 := Lib.hid (HBW.out.trans (hb8.mono HBW.out.size))
        have HB18 := Lib.hid (HB1W.out.trans (hb8.mono HB1W.out.size))
        rw [hb, hw8]
        have q0 : w8.cell? ⟨b, 0, none⟩ = some (.int .u32 sq) := by rw [cell_of_row _ _ _ _ _ _ hg8]; rfl
        have q1 : w8.cell? ⟨b, 1, none⟩ = some (.slice B m e) := by rw [cell_of_row _ _ _ _ _ _ hg8]; rfl
        have p0 : w8.cell? ⟨w.heap.size, 0, none⟩ = some (.int .u32 x.next) := (HB18.out.cell (cell_lt c0)).trans c0
        clear hb hw8 hb8 hg8
        go_wp2_with fail
        refine (seqdiff_any _ _ _).mono ?_
        rintro en w9 ⟨rfl, rfl⟩
        rw [HDF.out]
        have hmz : ((m : Int) == 0) = false := by simp; omega
        have hof' : (f : Int) < (o : Int) := by omega
        have hadd := HADD.out
        go_wp2
        go_roundw
        case rel => exact ⟨k + 1, o + m, by omega, by go_num, by go_num, by omega, fun h => by have := HFF.out h; omega, HN2, HB8, HB18⟩
        case measure => simp [intOf]; omega
      · obtain rfl : k = n := by omega
        have HXr := Lib.hid (old_below HX.out HB1W.out (row_lt HX.out))
        have HWr := Lib.hid (HWIN.out wr HBW.out)
        clear c1 c2 c5
        go_wp2_with (refine wpList_load_row rfl 29 _ rfl w.heap.size rfl 29 (rqC (conc x) (.slice A d c) (.slice Aa k ca)) (0, 0) _ HXr.out Try.underlying29 rfl (by kernel_rfl) ?_)
        refine HWr.out.mono ?_
        rintro en w2 ⟨rfl, hb2⟩
        have HB2 := Lib.hid (HBW.out.trans (hb2.mono HBW.out.size))
        have HX2 := Lib.hid (old_below HXr.out hb2 (row_lt HXr.out))
        obtain ⟨d0, d1, d2, d3, d4, d5⟩ := rq_cells HX2.out
        rw [hkn] at d3
        rw [hnx] at d0
        rw [hfin] at d4
        rw [hdd] at d5
        clear hb2 c0 c3 c4
        rcases HX0.out.fin with hf | ⟨hf0, hf1⟩
        · have hkf : decide (0 ≤ x.fin) = false := decide_eq_false (by omega)
          rw [hkf] at d3
          rw [if_neg (by omega)] at d4
          clear hkf
          go_wp2
          go_ret
          exact ⟨rfl, HB2.out⟩
        · have hkf : decide (0 ≤ x.fin) = true := decide_eq_true hf0
          have hfz : x.fin ≠ 0 := fun h => by have := HX0.out.done.2 h; rw [HDN.out] at this; cases this
          rw [hkf] at d3
          rw [if_pos hf0] at d4
          have hf2 := hfF hf0
          rw [HWX.out] at hf1
          obtain ⟨F, hF⟩ := Int.eq_ofNat_of_zero_le hf0
          rw [hF] at d4 hf1 hf2 hfz
          have HDF : Hid (diffS (addS x.next F) x.next = F) := diff_add (by omega)
          obtain ⟨fi, hfi⟩ : ∃ fi, addS x.next (F : Int) = fi := ⟨_, rfl⟩
          rw [hfi] at d4 HDF
          have HLIT : Hid (∀ W, Below w.heap.size w W → Calls Try.prog 18 #[.agg #[.int .u32 x.next, .slice A d c, .slice Aa k ca, .bool true, .int .u32 fi, .bool false]] W fun e w' => e = .returned (.int .i64 W0) ∧ Below W.heap.size W w') := fun W hb => by
            have h1 := HWIN.out W hb
            have he : rqC (conc x) (.slice A d c) (.slice Aa k ca) = #[.int .u32 x.next, .slice A d c, .slice Aa k ca, .bool true, .int .u32 fi, .bool false] := by
              unfold rqC
              rw [hkn, hnx, hdd, hfin, if_pos hf0, hkf, hF, hfi]
            rw [he] at h1
            exact h1
          have hF0 : 0 < (F : Int) := by omega
          have HF := Lib.hid hF
          clear hF hf0 hkf hfi hfF
          go_wp2_with fail
          refine (seqdiff_any _ _ _).mono ?_
          rintro en w9 ⟨rfl, rfl⟩
          rw [HDF.out]
          go_wp2_with fail
          refine (HLIT.out _ HB2.out).mono ?_
          rintro en w3 ⟨rfl, hb3⟩
          have HB3 := Lib.hid (HB2.out.trans (hb3.mono HB2.out.size))
          clear hb3
          go_wp2
          go_ret
          exact ⟨rfl, HB3.out⟩
  · have hfz := HX0.out.done.1 HDN.out
    have hfin : (conc x).fin = addS x.next (-1) := by unfold conc; simp only; rw [HDN.out]; rfl
    have hn0 : n = 0 := by
      rw [← HNP.out]
      rcases ps with _ | ⟨p, r⟩
      · rfl
      · have hm := List.mem_cons_self (a := p) (l := r)
        have hp0 := HG.out.pos hm
        obtain ⟨b, _, h2⟩ := HG.out.at_ hm (i := p.1) (by omega) (by omega)
        have := HX0.out.ahead (by omega) _ _ h2 (Int.natCast_nonneg _)
        omega
    subst hn0
    rw [decide_eq_true (by omega)] at c3
    rw [hfin] at c4
    have HAD : Hid (addS (addS x.next (-1)) 1 = x.next) := by
      have h1 := HX0.out.next.1
      have h2 := HX0.out.next.2
      show _ = _
      unfold addS
      omega
    obtain ⟨fi, hfi⟩ : ∃ fi, addS x.next (-1) = fi := ⟨_, rfl⟩
    rw [hfi] at c4 HAD
    obtain ⟨nx, hnx2⟩ : ∃ nx, x.next = nx := ⟨_, rfl⟩
    rw [hnx2] at c0 HAD
    have HADD : Hid (∀ W, Calls Try.prog 24 #[.int .u32 fi, .int .i64 1] W fun e w' => e = .returned (.int .u32 nx) ∧ Below W.heap.size W w') := fun W => by rw [← HAD.out]; exact sqadd_b _ _ W
    have H21 := Lib.hid (old_cell c3)
    have H24 := Lib.hid (old_cell c0)
    have H26 := Lib.hid (old_cell c4)
    have H32 := Lib.hid (old_cell c2)
    have HBS : Hid (Below w1.heap.size w1 w1) := Below.refl _ _
    have hbe : (nx == nx) = true := by simp
    go_upto_region 4 with (fail)
    refine wp_region_quiet_below (by kernel_rfl) (by kernel_rfl) ?_
    (first | go_big_quiet_step (fail) | quiet_step (fail))
    (refine wpQuiet_step (fun K hK => ?_); refine quiet_load_cell (by kernel_rfl) 4 _ rfl ⟨w.heap.size, 3, none⟩ (by first | rfl | (simp [Act.eval, Addr.add_mid])) (.bool true) _ H21.out Try.underlying4 rfl ?_; refine hK _ ?_; clear hK K; go_frame)
    (first | go_big_quiet_step (fail) | quiet_step (fail))
    (first | go_big_quiet_step (fail) | quiet_step (fail))
    (refine wpQuiet_step (fun K hK => ?_); refine quiet_load_cell (by kernel_rfl) 22 _ rfl ⟨w.heap.size, 0, none⟩ (by first | rfl | (simp [Act.eval, Addr.add_mid])) (.int .u32 nx) _ H24.out Try.underlying22 rfl ?_; refine hK _ ?_; clear hK K; go_frame)
    (first | go_big_quiet_step (fail) | quiet_step (fail))
    (refine wpQuiet_step (fun K hK => ?_); refine quiet_load_cell (by kernel_rfl) 22 _ rfl ⟨w.heap.size, 4, none⟩ (by first | rfl | (simp [Act.eval, Addr.add_mid])) (.int .u32 fi) _ H26.out Try.underlying22 rfl ?_; refine hK _ ?_; clear hK K; go_frame)
    quiet_step (first | (go_at_call 24; exact Calls.regrown_of (HADD.out _)))
    (first | go_big_quiet_step (fail) | quiet_step (fail))
    (first | go_big_quiet_step (fail) | quiet_step (fail))
    (first | go_big_quiet_step (fail) | quiet_step (fail))
    (first | go_big_quiet_step (fail) | quiet_step (fail))
    (refine wpQuiet_step (fun K hK => ?_); refine quiet_load_cell (by kernel_rfl) 27 _ rfl ⟨w.heap.size, 2, none⟩ (by first | rfl | (simp [Act.eval, Addr.add_mid])) (.slice Aa 0 ca) _ H32.out Try.underlying27 rfl ?_; refine hK _ ?_; clear hK K; go_frame)
    (first | go_big_quiet_step (fail) | quiet_step (fail))
    (first | go_big_quiet_step (fail) | quiet_step (fail))
    (first | go_big_quiet_step (fail) | quiet_step (fail))
    (first | go_big_quiet_step (fail) | quiet_step (fail))
    refine wpQuiet_nil ?_
    intro w9 hw9
    obtain ⟨⟨dq, osq⟩, rfl⟩ := hw9
    have HB12 := Lib.hid ((HBS.out).trans ((below_regrown w1 dq osq).mono (HBS.out).size))
    generalize Sort.grow (redrawn w1 dq) osq = w2 at *
    have HB3 := Lib.hid (HB.out.trans (HB12.out.mono HB.out.size))
    go_wp2
    go_ret
    exact ⟨rfl, HB3.out⟩
end Go.Proofs.Ytdgfhcojmfgimaa
