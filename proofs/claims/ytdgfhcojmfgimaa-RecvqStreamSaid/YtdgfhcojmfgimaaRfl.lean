/-
  The document's Like of layer 17: a right state is the one of the code's that bears its pieces. Every right state.
-/
import Derived.Test.YtdgfhcojmfgimaaRfa
import Derived.Test.YtdgfhcojmfgimaaRqp
import Derived.Test.YtdgfhcojmfgimaaVar
namespace Go.Proofs.Ytdgfhcojmfgimaa
open Go.RowKit

theorem rq_form {w : World} {S : Nat → Prop} {ds : Array Value} {q : Rq} (h : Rvs w S ds.toList (rqD q)) : ∃ vD vA, ds = #[.int .u32 q.next, vD, vA, .bool q.known, .int .u32 q.fin, .bool q.done] ∧ Rv w S vD (bytesD q.data) ∧ Rv w S vA (rowsD 2 pcD q.ahead) := by
  obtain ⟨v0, v1, v2, v3, v4, v5, hcs⟩ : ∃ v0 v1 v2 v3 v4 v5, ds.toList = [v0, v1, v2, v3, v4, v5] := by
    have := h.1
    rcases hc : ds.toList with _ | ⟨v0, _ | ⟨v1, _ | ⟨v2, _ | ⟨v3, _ | ⟨v4, _ | ⟨v5, _ | ⟨v6, l⟩⟩⟩⟩⟩⟩⟩ <;> rw [hc] at this <;> simp [rqD] at this
    exact ⟨_, _, _, _, _, _, rfl⟩
  have he : ds = #[v0, v1, v2, v3, v4, v5] := by rw [← Array.toArray_toList (xs := ds), hcs]
  rw [hcs] at h
  unfold rqD at h
  simp only [rvs_cons, rv_val] at h
  obtain ⟨⟨rfl, _⟩, hD, hA, ⟨rfl, _⟩, ⟨rfl, _⟩, ⟨rfl, _⟩, _⟩ := h
  exact ⟨v1, v2, he, hD, hA⟩
theorem rq_make {w : World} {S : Nat → Prop} {q : Rq} {vD vA : Value} (hD : Rv w S vD (bytesD q.data)) (hA : Rv w S vA (rowsD 2 pcD q.ahead)) : Rvs w S (#[.int .u32 q.next, vD, vA, .bool q.known, .int .u32 q.fin, .bool q.done] : Array Value).toList (rqD q) := by
  unfold rqD
  show Rvs w S [_, _, _, _, _, _] _
  simp only [rvs_cons]
  exact ⟨.val rfl, hD, hA, .val rfl, .val rfl, .val rfl, rvs_nil⟩
/-- a piece, where it lies -/
theorem pc_elem {w : World} {S : Nat → Prop} {vA : Value} {K : List Pc} (h : Rv w S vA (rowsD 2 pcD K)) : ∃ A c, vA = .slice A K.length c ∧ (A = none → c = 0) ∧ K.length ≤ c ∧ c ≤ maxLen ∧ ∀ (i : Nat) p, K[i]? = some p → ∃ ad B e, A = some ad ∧ S ad.block ∧ w.cell? (ad.add (i * 2)) = some (.int .u32 p.seq) ∧ w.cell? ((ad.add (i * 2)).add 1) = some (.slice B p.data.length e) ∧ Rv w S (.slice B p.data.length e) (bytesD p.data) := by
  obtain ⟨A, c, rfl, h1, h2, h3, h4⟩ := rv_elem (k := 2) (f := pcD) (fun a _ => rfl) h
  refine ⟨A, c, rfl, h1, h2, h3, fun i p hp => ?_⟩
  obtain ⟨ad, e1, hS, cs, hs, hr, hc⟩ := h4 i p hp (by omega)
  obtain ⟨u0, u1, hu⟩ : ∃ u0 u1, cs.toList = [u0, u1] := by
    rcases hc : cs.toList with _ | ⟨u0, _ | ⟨u1, _ | ⟨u2, l⟩⟩⟩
    · have := congrArg List.length hc; simp [hs] at this
    · have := congrArg List.length hc; simp [hs] at this
    · exact ⟨_, _, rfl⟩
    · have := congrArg List.length hc; simp [hs] at this
  rw [hu] at hr
  unfold pcD at hr
  simp only [rvs_cons, rv_val] at hr
  obtain ⟨⟨rfl, _⟩, hb, _⟩ := hr
  have hcs : cs = #[.int .u32 p.seq, u1] := by rw [← Array.toArray_toList (xs := cs), hu]
  subst hcs
  obtain ⟨B, e, rfl, _⟩ := rv_bytes.1 hb
  exact ⟨ad, B, e, e1, hS, hc 0 _ rfl, hc 1 _ rfl, hb⟩
theorem byte_at {w : World} {S : Nat → Prop} {B : Option Addr} {n e : Nat} {l : List UInt8} (h : Rv w S (.slice B n e) (bytesD l)) {k : Nat} {b : UInt8} (hk : l[k]? = some b) : ∃ ad, B = some ad ∧ S ad.block ∧ w.cell? (ad.add k) = some (.int .u8 (b.toNat : Int)) := by
  obtain ⟨A, c, e1, hr, _⟩ := rv_bytes.1 h
  injection e1 with e1
  subst e1
  exact hr k _ (by simp [cells, hk])
theorem six_cells' {w : World} {b : Nat} {v0 v1 v2 v3 v4 v5 : Value} {t : TypeId} {fr : Nat × Nat} (h : w.heap[b]? = some (.cells #[v0, v1, v2, v3, v4, v5] t fr)) :
    w.cell? ⟨b, 0, none⟩ = some v0 ∧ w.cell? ⟨b, 1, none⟩ = some v1 ∧ w.cell? ⟨b, 2, none⟩ = some v2 ∧ w.cell? ⟨b, 3, none⟩ = some v3 ∧ w.cell? ⟨b, 4, none⟩ = some v4 ∧ w.cell? ⟨b, 5, none⟩ = some v5 := by
  refine ⟨?_, ?_, ?_, ?_, ?_, ?_⟩ <;> (rw [cell_of_row _ _ _ _ _ _ h]; rfl)
set_option maxRecDepth 100000 in
set_option maxHeartbeats 8000000 in
theorem like_any (x : Rx) (cs ds : Array Value) (S S2 : Nat → Prop) (w : World) (hr : Rvs w S cs.toList (rxD x)) (hq : Rvs w S2 ds.toList (rqD (conc x))) (hx : OkX x) : Calls Try.prog 16 #[.agg cs, .agg ds] w fun e w' => e = .returned (.bool true) ∧ Below w.heap.size w w' := by
  obtain ⟨Ax, cx, hcs, hrd, hAx, hcx, hmx⟩ := rx_form hr
  obtain ⟨vD, vA, hds, hvD, hvA⟩ := rq_form hq
  have hpc := runs_pcs x.got (fun c hc => (hx.bytes c hc).2) x.got 0 rfl
  have hgl := hx.got
  have hcnt := runs_count x.got 0
  obtain ⟨g0, hg0⟩ : ∃ g0, x.got[0]? = some g0 := ⟨_, List.getElem?_eq_getElem (by omega)⟩
  have hfr := hx.front g0 hg0
  obtain ⟨nx, dt, gt, fn, dn⟩ := x
  obtain ⟨hU0, hU1⟩ := hx.next
  have hfb := hx.fin
  have hdf := hx.done
  have hby := hx.bytes
  have hdl := hx.data
  dsimp only at *
  have hcnt2 : (runsL 0 gt).length = runsN gt := by
    rw [hcnt]
    cases gt with
    | nil => rfl
    | cons c l =>
      simp at hg0
      subst hg0
      dsimp only
      rw [if_neg (by omega)]
      rfl
  clear hcnt hg0 hfr
  obtain ⟨ps, hps⟩ : ∃ ps, runsL 0 gt = ps := ⟨_, rfl⟩
  rw [hps] at hpc hcnt2
  have hah : (conc ⟨nx, dt, gt, fn, dn⟩).ahead = ps.map (fun p => ⟨addS nx p.1, p.2⟩) := by rw [← hps]; rfl
  obtain ⟨kn, hkn⟩ : ∃ kn, (conc ⟨nx, dt, gt, fn, dn⟩).known = kn := ⟨_, rfl⟩
  obtain ⟨fq, hfq⟩ : ∃ fq, (conc ⟨nx, dt, gt, fn, dn⟩).fin = fq := ⟨_, rfl⟩
  have HCASE : Hid ((dn = true ∧ fn = 0 ∧ kn = true ∧ fq = addS nx (-1)) ∨ (dn = false ∧ fn < 0 ∧ kn = false ∧ fq = 0) ∨ (dn = false ∧ 0 < fn ∧ fn ≤ 256 ∧ kn = true ∧ fq = addS nx fn)) := by
    show _ ∨ _
    have hk2 : kn = decide (0 ≤ fn) := hkn.symm
    have hf2 : fq = if dn = true then addS nx (-1) else if 0 ≤ fn then addS nx fn else 0 := hfq.symm
    have hw : winX ⟨nx, dt, gt, fn, dn⟩ ≤ 256 := by unfold winX; dsimp only; omega
    cases dn
    · have h0 : fn ≠ 0 := fun h => by have := hdf.2 h; cases this
      rcases hfb with h | ⟨h1, h2⟩
      · refine .inr (.inl ⟨rfl, by omega, by rw [hk2]; exact decide_eq_false (by omega), ?_⟩)
        rw [hf2, if_neg (by simp), if_neg (by omega)]
      · refine .inr (.inr ⟨rfl, by omega, by omega, by rw [hk2]; exact decide_eq_true h1, ?_⟩)
        rw [hf2, if_neg (by simp), if_pos h1]
    · refine .inl ⟨rfl, hdf.1 rfl, by rw [hk2]; exact decide_eq_true (by have := hdf.1 rfl; omega), ?_⟩
      rw [hf2, if_pos rfl]
  rw [hah] at hvA
  rw [hkn, hfq] at hds
  obtain ⟨AD, cD, rfl, -, -, -, -⟩ := rv_bytes.1 hvD
  change Rv w S2 (.slice AD dt.length cD) (bytesD dt) at hvD
  obtain ⟨nd, hnd⟩ : ∃ nd, dt.length = nd := ⟨_, rfl⟩
  obtain ⟨AA, cA, rfl, hAA, hcA, hmA, hel⟩ := pc_elem (rv_tight hvA)
  rw [List.length_map] at hcA
  obtain ⟨M, hM⟩ : ∃ M, ps.length = M := ⟨_, rfl⟩
  have hds2 : ds = #[.int .u32 nx, .slice AD nd cD, .slice AA M cA, .bool kn, .int .u32 fq, .bool dn] := by rw [hds]; simp only [conc, List.length_map, hnd, hM]
  rw [hgl] at hcs hcx
  rw [hM] at hcA
  subst hds2 hcs
  have hM256 : M ≤ 1000 := by
    have h1 : ∀ l : List Int, runsN l ≤ l.length := fun l => by
      induction l with
      | nil => exact Nat.le_refl _
      | cons a l ih =>
        cases l with
        | nil => simp [runsN]
        | cons b l =>
          simp only [runsN, List.length_cons] at ih ⊢
          split <;> omega
    have := h1 gt
    omega
  have hcA2 : cA ≤ 9223372036854775807 := by unfold maxLen at hmA; omega
  have hcx2 : cx ≤ 9223372036854775807 := by unfold maxLen at hmx; omega
  obtain ⟨ax, hax⟩ : ∃ ax, Ax = some ax := by
    obtain ⟨ax, h, _⟩ := hrd 0 _ (intsV_get (List.getElem?_eq_getElem (by omega)))
    exact ⟨ax, h⟩
  subst hax
  obtain ⟨TX, hTX⟩ : ∃ TX : ByteArray, ⟨dt.toArray⟩ = TX := ⟨_, rfl⟩
  unfold txtV
  rw [hTX]
  obtain ⟨w1, hw1⟩ : ∃ w1, (w.alloc (.cells #[.int .u32 nx, .string TX, .slice (some ax) 256 cx, .int .i64 fn, .bool dn] 33)).alloc (.cells #[.int .u32 nx, .slice AD nd cD, .slice AA M cA, .bool kn, .int .u32 fq, .bool dn] 29) = w1 := ⟨_, rfl⟩
  have HB1 : Hid (Below w.heap.size w w1) := by rw [← hw1]; exact ((Below.refl _ _).alloc (Nat.le_refl _) _).alloc (by simp) _
  have HX1 : Hid (w1.heap[w.heap.size]? = some (.cells #[.int .u32 nx, .string TX, .slice (some ax) 256 cx, .int .i64 fn, .bool dn] 33 (0, 0))) := by rw [← hw1]; exact old_alloc (heap_alloc_new w _) _
  have HQ1 : Hid (w1.heap[w.heap.size + 1]? = some (.cells #[.int .u32 nx, .slice AD nd cD, .slice AA M cA, .bool kn, .int .u32 fq, .bool dn] 29 (0, 0))) := by rw [← hw1]; exact new_at1 w _ _
  have HW := Lib.hid hw1
  have HGX : Hid (∀ w', Below w.heap.size w w' → ∀ (i : Nat) z, gt[i]? = some z → w'.cell? (ax.add i) = some (.int .i64 z)) := fun w' hb i z hz => by
    obtain ⟨a, e, _, hc⟩ := hrd i _ (intsV_get hz)
    cases e
    exact (hb.cell (cell_lt hc)).trans hc
  have HEL : Hid (∀ (m : Nat) o d, ps[m]? = some (o, d) → ∃ ad B e, AA = some ad ∧ ∀ w', Below w.heap.size w w' → w'.cell? (ad.add (m * 2)) = some (.int .u32 (addS nx o)) ∧ w'.cell? ((ad.add (m * 2)).add 1) = some (.slice B d.length e) ∧ ∀ (k : Nat) b, d[k]? = some b → ∃ bd, B = some bd ∧ w'.cell? (bd.add k) = some (.int .u8 (b.toNat : Int))) := fun m o d hm => by
    obtain ⟨ad, B, e, h1, h2, h3, h4, h5⟩ := hel m ⟨addS nx o, d⟩ (by rw [List.getElem?_map, hm]; rfl)
    refine ⟨ad, B, e, h1, fun w' hb => ⟨(hb.cell (cell_lt h3)).trans h3, (hb.cell (cell_lt h4)).trans h4, fun k b hk => ?_⟩⟩
    obtain ⟨bd, e2, _, hc⟩ := byte_at h5 hk
    exact ⟨bd, e2, (hb.cell (cell_lt hc)).trans hc⟩
  have HCV : Hid (∀ w', Below w.heap.size w w' → (convert 26 9 (.slice AD nd cD)).run Try.prog w' = .ok (.string TX) w') := fun w' hb => by
    obtain ⟨A', c', e1, h2, _⟩ := rv_bytes.1 ((rv_tight hvD).kept hb (fun _ h => h.2))
    injection e1 with e1
    subst e1
    have := run_text (P := Try.prog) w' 26 9 5 cD Try.underlying26 Try.underlying5 Try.underlying9 (lo := 0) (hi := w.heap.size) (RdS.rd h2 (fun b h => ⟨Nat.zero_le _, h.2⟩))
    rwa [hnd, hTX] at this
  have HGL := Lib.hid hgl
  have HBY := Lib.hid hby
  have HPC := Lib.hid hpc
  have HPM := Lib.hid hM
  have HCN : Hid (runsN gt = M) := hcnt2.symm.trans hM
  clear hr hq hrd hAx hmx hx hpc hdf hfb hby hel hAA hmA hvA hvD hds hah hkn hfq hw1 hTX hnd hM hcnt2 hps hgl hdl
  go_enter Try.func16, Try.ntmps16
  go_upto_region 1 with (fail)
  change Code.wp _ _ _ _ ((w.alloc (.cells #[.int .u32 nx, .string TX, .slice (some ax) 256 cx, .int .i64 fn, .bool dn] 33)).alloc (.cells #[.int .u32 nx, .slice AD nd cD, .slice AA M cA, .bool kn, .int .u32 fq, .bool dn] 29))
  rw [HW.out]
  clear HW
  go_cut [37] (fun t37 wx => t37 = .bool false ∧ w1 = wx)
  case first =>
    obtain ⟨c0, c1, c2, c3, c4⟩ := five_cells HX1.out
    obtain ⟨d0, d1, d2, d3, d4, d5⟩ := six_cells' HQ1.out
    have hcv := HCV.out w1 HB1.out
    rcases HCASE.out with ⟨rfl, rfl, rfl, rfl⟩ | ⟨rfl, h1, rfl, rfl⟩ | ⟨rfl, h1, h2, rfl, rfl⟩
    · go_wp2_with fail
      go_meet
      case rel => exact ⟨rfl, rfl⟩
    · have h3 : ¬ 0 ≤ fn := by omega
      go_wp2_with fail
      go_meet
      case rel => exact ⟨rfl, rfl⟩
    · have h3 : 0 ≤ fn := by omega
      go_wp2_with fail
      go_meet
      case rel => exact ⟨rfl, rfl⟩
  case rest =>
  obtain ⟨rfl, rfl⟩ := hcut
  go_upto_region 3 with (fail)
  go_cut [77] (fun t77 wx => t77 = .bool false ∧ Hid (wx.heap[w.heap.size]? = some (.cells #[.int .u32 nx, .string TX, .slice (some ax) 256 cx, .int .i64 fn, .bool dn] 33 (0, 0))) ∧ Hid (wx.heap[w.heap.size + 1]? = some (.cells #[.int .u32 nx, .slice AD nd cD, .slice AA M cA, .bool kn, .int .u32 fq, .bool dn] 29 (0, 0))) ∧ Hid (Below w.heap.size w wx))
  case first =>
    have HR0 := Lib.hid (var_cell HX1.out 0 rfl)
    have HR3 := Lib.hid (var_cell HX1.out 3 rfl)
    have HR4 := Lib.hid (var_cell HX1.out 4 rfl)
    have HS4 := Lib.hid (var_cell HQ1.out 4 rfl)
    have HADD : Hid (∀ (n : Int) (w : World), -9223372036854775808 ≤ n → n ≤ 9223372036854775807 → Calls Try.prog 32 #[.int .u32 nx, .int .i64 n] w fun e w' => e = .returned (.int .u32 (addS nx n)) ∧ Below w.heap.size w w') := fun n w h1 h2 => (sqrefadd_any nx n w hU0 hU1 h1 h2).mono (by rintro e w' ⟨rfl, rfl⟩; exact ⟨rfl, Below.refl _ _⟩)
    have HBS : Hid (Below w1.heap.size w1 w1) := Below.refl _ _
    rcases HCASE.out with ⟨rfl, rfl, rfl, rfl⟩ | ⟨rfl, h1, rfl, rfl⟩ | ⟨rfl, h1, h2, rfl, rfl⟩
    · refine wp_region_quiet_below (by kernel_rfl) (by kernel_rfl) ?_
      (first | go_big_quiet_step (fail) | quiet_step (fail))
      (refine wpQuiet_step (fun K hK => ?_); refine quiet_load_cell (by kernel_rfl) 4 _ rfl ((⟨w.heap.size, 0, none⟩ : Addr).add 4) (by first | rfl | (simp [Act.eval, Addr.add_mid])) (.bool true) _ HR4.out Try.underlying4 rfl ?_; refine hK _ ?_; clear hK K; go_frame)
      (first | go_big_quiet_step (fail) | quiet_step (fail))
      (first | go_big_quiet_step (fail) | quiet_step (fail))
      (refine wpQuiet_step (fun K hK => ?_); refine quiet_load_cell (by kernel_rfl) 22 _ rfl ((⟨w.heap.size + 1, 0, none⟩ : Addr).add 4) (by first | rfl | (simp [Act.eval, Addr.add_mid])) (.int .u32 (addS nx (-1))) _ HS4.out Try.underlying22 rfl ?_; refine hK _ ?_; clear hK K; go_frame)
      (first | go_big_quiet_step (fail) | quiet_step (fail))
      (refine wpQuiet_step (fun K hK => ?_); refine quiet_load_cell (by kernel_rfl) 22 _ rfl (⟨w.heap.size, 0, none⟩ : Addr) (by first | rfl | (simp [Act.eval, Addr.add_mid])) (.int .u32 nx) _ HR0.out Try.underlying22 rfl ?_; refine hK _ ?_; clear hK K; go_frame)
      quiet_step (first | (go_at_call 32; exact Calls.regrown_of (HADD.out _ _ (by omega) (by omega))))
      (first | go_big_quiet_step (fail) | quiet_step (fail))
      (first | go_big_quiet_step (fail) | quiet_step (fail))
      (first | go_big_quiet_step (fail) | quiet_step (fail))
      (first | go_big_quiet_step (fail) | quiet_step (fail))
      (refine wpQuiet_step (fun K hK => ?_); refine quiet_load_cell (by kernel_rfl) 4 _ rfl ((⟨w.heap.size, 0, none⟩ : Addr).add 4) (by first | rfl | (simp [Act.eval, Addr.add_mid])) (.bool true) _ HR4.out Try.underlying4 rfl ?_; refine hK _ ?_; clear hK K; go_frame)
      (first | go_big_quiet_step (fail) | quiet_step (fail))
      (first | go_big_quiet_step (fail) | quiet_step (fail))
      (first | go_big_quiet_step (fail) | quiet_step (fail))
      (first | go_big_quiet_step (fail) | quiet_step (fail))
      (first | go_big_quiet_step (fail) | quiet_step (fail))
      (first | go_big_quiet_step (fail) | quiet_step (fail))
      (first | go_big_quiet_step (fail) | quiet_step (fail))
      (first | go_big_quiet_step (fail) | quiet_step (fail))
      (first | go_big_quiet_step (fail) | quiet_step (fail))
      (first | go_big_quiet_step (fail) | quiet_step (fail))
      (first | go_big_quiet_step (fail) | quiet_step (fail))
      (first | go_big_quiet_step (fail) | quiet_step (fail))
      (first | go_big_quiet_step (fail) | quiet_step (fail))
      (first | go_big_quiet_step (fail) | quiet_step (fail))
      (first | go_big_quiet_step (fail) | quiet_step (fail))
      (first | go_big_quiet_step (fail) | quiet_step (fail))
      (first | go_big_quiet_step (fail) | quiet_step (fail))
      (first | go_big_quiet_step (fail) | quiet_step (fail))
      (first | go_big_quiet_step (fail) | quiet_step (fail))
      (refine wpQuiet_step (fun K hK => ?_); refine quiet_load_cell (by kernel_rfl) 3 _ rfl ((⟨w.heap.size, 0, none⟩ : Addr).add 3) (by first | rfl | (simp [Act.eval, Addr.add_mid])) (.int .i64 0) _ HR3.out Try.underlying3 rfl ?_; refine hK _ ?_; clear hK K; go_frame)
      (first | go_big_quiet_step (fail) | quiet_step (fail))
      (first | go_big_quiet_step (fail) | quiet_step (fail))
      (first | go_big_quiet_step (fail) | quiet_step (fail))
      (first | go_big_quiet_step (fail) | quiet_step (fail))
      (first | go_big_quiet_step (fail) | quiet_step (fail))
      (first | go_big_quiet_step (fail) | quiet_step (fail))
      (first | go_big_quiet_step (fail) | quiet_step (fail))
      refine wpQuiet_nil ?_
      intro w9 hw9
      obtain ⟨⟨dq, osq⟩, rfl⟩ := hw9
      have HBT := Lib.hid ((HBS.out).trans ((below_regrown w1 dq osq).mono (HBS.out).size))
      generalize Sort.grow (redrawn w1 dq) osq = w2 at *
      have HX2 := Lib.hid (old_below HX1.out HBT.out (row_lt HX1.out))
      have HQ2 := Lib.hid (old_below HQ1.out HBT.out (row_lt HQ1.out))
      have HB2 := Lib.hid (HB1.out.trans (HBT.out.mono HB1.out.size))
      go_wp2_with fail
      go_meet
      case rel => exact ⟨by first | rfl | simp, HX2, HQ2, HB2⟩
    · have h3 : ¬ 0 ≤ fn := by omega
      refine wp_region_quiet_below (by kernel_rfl) (by kernel_rfl) ?_
      (first | go_big_quiet_step (fail) | quiet_step (fail))
      (refine wpQuiet_step (fun K hK => ?_); refine quiet_load_cell (by kernel_rfl) 4 _ rfl ((⟨w.heap.size, 0, none⟩ : Addr).add 4) (by first | rfl | (simp [Act.eval, Addr.add_mid])) (.bool false) _ HR4.out Try.underlying4 rfl ?_; refine hK _ ?_; clear hK K; go_frame)
      (first | go_big_quiet_step (fail) | quiet_step (fail))
      (first | go_big_quiet_step (fail) | quiet_step (fail))
      (first | go_big_quiet_step (fail) | quiet_step (fail))
      (first | go_big_quiet_step (fail) | quiet_step (fail))
      (first | go_big_quiet_step (fail) | quiet_step (fail))
      (first | go_big_quiet_step (fail) | quiet_step (fail))
      (first | go_big_quiet_step (fail) | quiet_step (fail))
      (first | go_big_quiet_step (fail) | quiet_step (fail))
      (first | go_big_quiet_step (fail) | quiet_step (fail))
      (first | go_big_quiet_step (fail) | quiet_step (fail))
      (refine wpQuiet_step (fun K hK => ?_); refine quiet_load_cell (by kernel_rfl) 4 _ rfl ((⟨w.heap.size, 0, none⟩ : Addr).add 4) (by first | rfl | (simp [Act.eval, Addr.add_mid])) (.bool false) _ HR4.out Try.underlying4 rfl ?_; refine hK _ ?_; clear hK K; go_frame)
      (first | go_big_quiet_step (fail) | quiet_step (fail))
      (first | go_big_quiet_step (fail) | quiet_step (fail))
      (first | go_big_quiet_step (fail) | quiet_step (fail))
      (refine wpQuiet_step (fun K hK => ?_); refine quiet_load_cell (by kernel_rfl) 3 _ rfl ((⟨w.heap.size, 0, none⟩ : Addr).add 3) (by first | rfl | (simp [Act.eval, Addr.add_mid])) (.int .i64 fn) _ HR3.out Try.underlying3 rfl ?_; refine hK _ ?_; clear hK K; go_frame)
      (first | go_big_quiet_step (fail) | quiet_step (fail))
      (first | go_big_quiet_step (fail) | quiet_step (fail))
      (first | go_big_quiet_step (fail) | quiet_step (fail))
      (first | go_big_quiet_step (fail) | quiet_step (fail))
      (first | go_big_quiet_step (fail) | quiet_step (fail))
      (first | go_big_quiet_step (fail) | quiet_step (fail))
      (first | go_big_quiet_step (fail) | quiet_step (fail))
      (first | go_big_quiet_step (fail) | quiet_step (fail))
      (first | go_big_quiet_step (fail) | quiet_step (fail))
      (first | go_big_quiet_step (fail) | quiet_step (fail))
      (first | go_big_quiet_step (fail) | quiet_step (fail))
      (first | go_big_quiet_step (fail) | quiet_step (fail))
      (first | go_big_quiet_step (fail) | quiet_step (fail))
      (first | go_big_quiet_step (fail) | quiet_step (fail))
      (first | go_big_quiet_step (fail) | quiet_step (fail))
      (refine wpQuiet_step (fun K hK => ?_); refine quiet_load_cell (by kernel_rfl) 3 _ rfl ((⟨w.heap.size, 0, none⟩ : Addr).add 3) (by first | rfl | (simp [Act.eval, Addr.add_mid])) (.int .i64 fn) _ HR3.out Try.underlying3 rfl ?_; refine hK _ ?_; clear hK K; go_frame)
      (first | go_big_quiet_step (fail) | quiet_step (fail))
      (first | go_big_quiet_step (fail) | quiet_step (fail))
      (first | go_big_quiet_step (fail) | quiet_step (fail))
      (refine wpQuiet_step (fun K hK => ?_); refine quiet_load_cell (by kernel_rfl) 22 _ rfl ((⟨w.heap.size + 1, 0, none⟩ : Addr).add 4) (by first | rfl | (simp [Act.eval, Addr.add_mid])) (.int .u32 0) _ HS4.out Try.underlying22 rfl ?_; refine hK _ ?_; clear hK K; go_frame)
      (first | go_big_quiet_step (fail) | quiet_step (fail))
      (first | go_big_quiet_step (fail) | quiet_step (fail))
      (first | go_big_quiet_step (fail) | quiet_step (fail))
      refine wpQuiet_nil ?_
      intro w9 hw9
      obtain ⟨⟨dq, osq⟩, rfl⟩ := hw9
      have HBT := Lib.hid ((HBS.out).trans ((below_regrown w1 dq osq).mono (HBS.out).size))
      generalize Sort.grow (redrawn w1 dq) osq = w2 at *
      have HX2 := Lib.hid (old_below HX1.out HBT.out (row_lt HX1.out))
      have HQ2 := Lib.hid (old_below HQ1.out HBT.out (row_lt HQ1.out))
      have HB2 := Lib.hid (HB1.out.trans (HBT.out.mono HB1.out.size))
      go_wp2_with fail
      go_meet
      case rel => exact ⟨by first | rfl | simp, HX2, HQ2, HB2⟩
    · have h3 : 0 ≤ fn := by omega
      have h4 : ¬ fn < 0 := by omega
      refine wp_region_quiet_below (by kernel_rfl) (by kernel_rfl) ?_
      (first | go_big_quiet_step (fail) | quiet_step (fail))
      (refine wpQuiet_step (fun K hK => ?_); refine quiet_load_cell (by kernel_rfl) 4 _ rfl ((⟨w.heap.size, 0, none⟩ : Addr).add 4) (by first | rfl | (simp [Act.eval, Addr.add_mid])) (.bool false) _ HR4.out Try.underlying4 rfl ?_; refine hK _ ?_; clear hK K; go_frame)
      (first | go_big_quiet_step (fail) | quiet_step (fail))
      (first | go_big_quiet_step (fail) | quiet_step (fail))
      (first | go_big_quiet_step (fail) | quiet_step (fail))
      (first | go_big_quiet_step (fail) | quiet_step (fail))
      (first | go_big_quiet_step (fail) | quiet_step (fail))
      (first | go_big_quiet_step (fail) | quiet_step (fail))
      (first | go_big_quiet_step (fail) | quiet_step (fail))
      (first | go_big_quiet_step (fail) | quiet_step (fail))
      (first | go_big_quiet_step (fail) | quiet_step (fail))
      (first | go_big_quiet_step (fail) | quiet_step (fail))
      (refine wpQuiet_step (fun K hK => ?_); refine quiet_load_cell (by kernel_rfl) 4 _ rfl ((⟨w.heap.size, 0, none⟩ : Addr).add 4) (by first | rfl | (simp [Act.eval, Addr.add_mid])) (.bool false) _ HR4.out Try.underlying4 rfl ?_; refine hK _ ?_; clear hK K; go_frame)
      (first | go_big_quiet_step (fail) | quiet_step (fail))
      (first | go_big_quiet_step (fail) | quiet_step (fail))
      (first | go_big_quiet_step (fail) | quiet_step (fail))
      (refine wpQuiet_step (fun K hK => ?_); refine quiet_load_cell (by kernel_rfl) 3 _ rfl ((⟨w.heap.size, 0, none⟩ : Addr).add 3) (by first | rfl | (simp [Act.eval, Addr.add_mid])) (.int .i64 fn) _ HR3.out Try.underlying3 rfl ?_; refine hK _ ?_; clear hK K; go_frame)
      (first | go_big_quiet_step (fail) | quiet_step (fail))
      (first | go_big_quiet_step (fail) | quiet_step (fail))
      (first | go_big_quiet_step (fail) | quiet_step (fail))
      (first | go_big_quiet_step (fail) | quiet_step (fail))
      (refine wpQuiet_step (fun K hK => ?_); refine quiet_load_cell (by kernel_rfl) 22 _ rfl ((⟨w.heap.size + 1, 0, none⟩ : Addr).add 4) (by first | rfl | (simp [Act.eval, Addr.add_mid])) (.int .u32 (addS nx fn)) _ HS4.out Try.underlying22 rfl ?_; refine hK _ ?_; clear hK K; go_frame)
      (first | go_big_quiet_step (fail) | quiet_step (fail))
      (refine wpQuiet_step (fun K hK => ?_); refine quiet_load_cell (by kernel_rfl) 22 _ rfl (⟨w.heap.size, 0, none⟩ : Addr) (by first | rfl | (simp [Act.eval, Addr.add_mid])) (.int .u32 nx) _ HR0.out Try.underlying22 rfl ?_; refine hK _ ?_; clear hK K; go_frame)
      (first | go_big_quiet_step (fail) | quiet_step (fail))
      (refine wpQuiet_step (fun K hK => ?_); refine quiet_load_cell (by kernel_rfl) 3 _ rfl ((⟨w.heap.size, 0, none⟩ : Addr).add 3) (by first | rfl | (simp [Act.eval, Addr.add_mid])) (.int .i64 fn) _ HR3.out Try.underlying3 rfl ?_; refine hK _ ?_; clear hK K; go_frame)
      quiet_step (first | (go_at_call 32; exact Calls.regrown_of (HADD.out _ _ (by omega) (by omega))))
      (first | go_big_quiet_step (fail) | quiet_step (fail))
      (first | go_big_quiet_step (fail) | quiet_step (fail))
      (first | go_big_quiet_step (fail) | quiet_step (fail))
      (first | go_big_quiet_step (fail) | quiet_step (fail))
      (first | go_big_quiet_step (fail) | quiet_step (fail))
      (refine wpQuiet_step (fun K hK => ?_); refine quiet_load_cell (by kernel_rfl) 3 _ rfl ((⟨w.heap.size, 0, none⟩ : Addr).add 3) (by first | rfl | (simp [Act.eval, Addr.add_mid])) (.int .i64 fn) _ HR3.out Try.underlying3 rfl ?_; refine hK _ ?_; clear hK K; go_frame)
      (first | go_big_quiet_step (fail) | quiet_step (fail))
      (first | go_big_quiet_step (fail) | quiet_step (fail))
      (first | go_big_quiet_step (fail) | quiet_step (fail))
      (first | go_big_quiet_step (fail) | quiet_step (fail))
      (first | go_big_quiet_step (fail) | quiet_step (fail))
      (first | go_big_quiet_step (fail) | quiet_step (fail))
      (first | go_big_quiet_step (fail) | quiet_step (fail))
      refine wpQuiet_nil ?_
      intro w9 hw9
      obtain ⟨⟨dq, osq⟩, rfl⟩ := hw9
      have HBT := Lib.hid ((HBS.out).trans ((below_regrown w1 dq osq).mono (HBS.out).size))
      generalize Sort.grow (redrawn w1 dq) osq = w2 at *
      have HX2 := Lib.hid (old_below HX1.out HBT.out (row_lt HX1.out))
      have HQ2 := Lib.hid (old_below HQ1.out HBT.out (row_lt HQ1.out))
      have HB2 := Lib.hid (HB1.out.trans (HBT.out.mono HB1.out.size))
      go_wp2_with fail
      go_meet
      case rel => exact ⟨by first | rfl | simp, HX2, HQ2, HB2⟩
  case rest =>
  obtain ⟨rfl, HX2, HQ2, HB2⟩ := hcut
  clear HX1 HQ1 HB1 HCASE HCV
  obtain ⟨c0, c1, c2, c3, c4⟩ := five_cells HX2.out
  go_wp2_with fail
  refine (blank_any 256 _ (by omega)).mono ?_
  rintro e5 w5 ⟨v5, rfl, ho5, hb5⟩
  obtain ⟨g5, c5, cur5, rfl, hlo5, -, hg5, hc5m, -, -⟩ := ownk_some ho5 (by omega)
  have hN5 := row_lt HQ2.out
  have HX5 := Lib.hid (old_below HX2.out hb5 (row_lt HX2.out))
  have HQ5 := Lib.hid (old_below HQ2.out hb5 (row_lt HQ2.out))
  have HB5 := Lib.hid (HB2.out.trans (hb5.mono HB2.out.size))
  have HO5 : Hid (w5.ownsRow (w.heap.size + 2) 3 1 (.slice (some ⟨g5, 0, none⟩) 256 c5) 256 (intsV (cutG gt 0))) := by
    show World.ownsRow _ _ _ _ _ _ _
    rw [cutG_zero, HGL.out]
    exact ownk_base ho5 (by omega)
  have hg5G : w.heap.size + 2 ≤ g5 := by omega
  have hc5 : c5 ≤ 9223372036854775807 := by unfold maxLen at hc5m; omega
  have hc5l : 256 ≤ c5 := by
    obtain ⟨_, _, _, h1, _⟩ := own_at0 ho5 (by omega)
    exact h1
  clear ho5 hb5 c0 c1 c2 c3 c4 hlo5 hg5 hc5m hN5 HX2 HQ2 HB2
  go_wp2
  go_loopw [6] (fun t6 wr => ∃ m tt : Nat, m ≤ M ∧ t6 = .int .i64 (m : Int) ∧ Hid (Pcs gt tt (ps.drop m)) ∧ Hid (wr.ownsRow (w.heap.size + 2) 3 1 (.slice (some ⟨g5, 0, none⟩) 256 c5) 256 (intsV (cutG gt tt))) ∧ Hid (wr.heap[w.heap.size]? = some (.cells #[.int .u32 nx, .string TX, .slice (some ax) 256 cx, .int .i64 fn, .bool dn] 33 (0, 0))) ∧ Hid (wr.heap[w.heap.size + 1]? = some (.cells #[.int .u32 nx, .slice AD nd cD, .slice AA M cA, .bool kn, .int .u32 fq, .bool dn] 29 (0, 0))) ∧ Hid (Below w.heap.size w wr)) (fun t6 _ => M - (intOf t6).toNat)
  case atStart => exact ⟨0, 0, Nat.zero_le _, rfl, HPC, HO5, HX5, HQ5, HB5⟩
  case round =>
    obtain ⟨m, tt, hm, rfl, HPW, HOW, HXW, HQW, HBW⟩ := hrel
    clear HX5 HQ5 HB5 HO5 HPC
    obtain ⟨d0, d1, d2, d3, d4, d5⟩ := six_cells' HQW.out
    by_cases hlt : m < M
    · obtain ⟨⟨o, d⟩, hp⟩ : ∃ p, ps[m]? = some p := ⟨_, List.getElem?_eq_getElem (by rw [HPM.out]; exact hlt)⟩
      have hdrop : ps.drop m = (o, d) :: ps.drop (m + 1) := by
        rw [List.drop_eq_getElem_cons (by rw [HPM.out]; exact hlt), (List.getElem?_eq_some_iff.1 hp).2]
      have hpw := HPW.out
      rw [hdrop] at hpw
      obtain ⟨hto, hdne, hgap, hbyt, hrest⟩ := hpw
      obtain ⟨ad, B, e, rfl, hfa⟩ := HEL.out m o d hp
      obtain ⟨ld, hld⟩ : ∃ ld, d.length = ld := ⟨_, rfl⟩
      have hld0 : 0 < ld := by rw [← hld]; exact List.length_pos_iff.2 hdne
      have ho256 : o + ld ≤ 256 := by
        have h1 := hbyt (ld - 1) _ (List.getElem?_eq_getElem (by omega))
        have h2 := (List.getElem?_eq_some_iff.1 h1).1
        rw [HGL.out] at h2
        omega
      obtain ⟨bd, hBe, -⟩ := (hfa wr HBW.out).2.2 0 _ (List.getElem?_eq_getElem (by omega))
      subst hBe
      rw [hld] at hfa
      have heC : Hid (∀ w', Below w.heap.size w w' → w'.cell? (ad.add (m * 2)) = some (.int .u32 (addS nx o)) ∧ w'.cell? ((ad.add (m * 2)).add 1) = some (.slice (some bd) ld e) ∧ ∀ (k : Nat) b, d[k]? = some b → w'.cell? (bd.add k) = some (.int .u8 (b.toNat : Int))) := fun w' hb => by
        obtain ⟨h1, h2, h3⟩ := hfa w' hb
        refine ⟨h1, h2, fun k b hk => ?_⟩
        obtain ⟨bd', e1, h4⟩ := h3 k b hk
        injection e1 with e1
        rw [e1]
        exact h4
      have HGAP := Lib.hid (cutG_gap hto (fun c hc => (HBY.out c hc).1) hgap)
      have HBYT := Lib.hid hbyt
      have HRST := Lib.hid hrest
      rw [hld] at HRST
      have HLD := Lib.hid hld
      have HS2 := Lib.hid (var_cell HQW.out 2 rfl)
      have HR0 := Lib.hid (var_cell HXW.out 0 rfl)
      have HE0 := Lib.hid (old_cell (heC.out wr HBW.out).1)
      have HBS : Hid (Below wr.heap.size wr wr) := Below.refl _ _
      have HDF : Hid (∀ w, Calls Try.prog 29 #[.int .u32 (addS nx o), .int .u32 nx] w fun e w' => e = .returned (.int .i64 (o : Int)) ∧ Below w.heap.size w w') := fun w => (sqrefdiff_any (addS nx o) nx w (addS_ge _ _) (addS_le _ _) hU0 hU1).mono (by rintro e w' ⟨rfl, rfl⟩; exact ⟨by rw [diff_add (by omega)], Below.refl _ _⟩)
      have hm0 : (0 : Int) ≤ (m : Int) := by omega
      have hmi : (m : Int) < (M : Int) := by omega
      clear hp hdrop hfa hgap hbyt hrest hto hdne hld HPW
      go_upto_region 9 with (fail)
      refine wp_region_quiet_below (by kernel_rfl) (by kernel_rfl) ?_
      (first | go_big_quiet_step (fail) | quiet_step (fail))
      (refine wpQuiet_step (fun K hK => ?_); refine quiet_load_cell (by kernel_rfl) 27 _ rfl ((⟨w.heap.size + 1, 0, none⟩ : Addr).add 2) (by first | rfl | (simp [Act.eval, Addr.add_mid])) (.slice (some ad) M cA) _ HS2.out Try.underlying27 rfl ?_; refine hK _ ?_; clear hK K; go_frame)
      (first | go_big_quiet_step (fail) | quiet_step (fail))
      (first | go_big_quiet_step (fail) | quiet_step (fail))
      (first | go_big_quiet_step (fail) | quiet_step (fail))
      (refine wpQuiet_step (fun K hK => ?_); refine quiet_load_cell (by kernel_rfl) 22 _ rfl (ad.add (m * 2)) (by first | rfl | (simp [Act.eval, Addr.add_mid])) (.int .u32 (addS nx o)) _ HE0.out Try.underlying22 rfl ?_; refine hK _ ?_; clear hK K; go_frame)
      (first | go_big_quiet_step (fail) | quiet_step (fail))
      (refine wpQuiet_step (fun K hK => ?_); refine quiet_load_cell (by kernel_rfl) 22 _ rfl (⟨w.heap.size, 0, none⟩ : Addr) (by first | rfl | (simp [Act.eval, Addr.add_mid])) (.int .u32 nx) _ HR0.out Try.underlying22 rfl ?_; refine hK _ ?_; clear hK K; go_frame)
      quiet_step (first | (go_at_call 29; exact Calls.regrown_of (HDF.out _)))
      (first | go_big_quiet_step (fail) | quiet_step (fail))
      refine wpQuiet_nil ?_
      intro w9 hw9
      obtain ⟨⟨dq, osq⟩, rfl⟩ := hw9
      have HBA := Lib.hid ((HBS.out).trans ((below_regrown wr dq osq).mono (HBS.out).size))
      generalize Sort.grow (redrawn wr dq) osq = wa at *
      have HXA := Lib.hid (old_below HXW.out HBA.out (row_lt HXW.out))
      have HQA := Lib.hid (old_below HQW.out HBA.out (row_lt HQW.out))
      have HOA : Hid (wa.ownsRow (w.heap.size + 2) 3 1 (.slice (some ⟨g5, 0, none⟩) 256 c5) 256 (intsV (cutG gt (o + 0)))) := by
        change wa.ownsRow _ _ _ _ _ (intsV (cutG gt o))
        rw [← HGAP.out]
        exact ownk_below HOW.out HBA.out (Nat.le_refl _)
      have HBA2 := Lib.hid (HBW.out.trans (HBA.out.mono HBW.out.size))
      clear d0 d1 d2 d3 d4 d5 HS2 HR0 HE0 HBS HDF HGAP HBA HXW HQW HOW HBW
      rename World => wa'
      go_wp2
      go_loopw [8] (fun t8 wi => ∃ k : Nat, k ≤ ld ∧ t8 = .int .i64 (k : Int) ∧ Hid (wi.ownsRow (w.heap.size + 2) 3 1 (.slice (some ⟨g5, 0, none⟩) 256 c5) 256 (intsV (cutG gt (o + k)))) ∧ Hid (wi.heap[w.heap.size]? = some (.cells #[.int .u32 nx, .string TX, .slice (some ax) 256 cx, .int .i64 fn, .bool dn] 33 (0, 0))) ∧ Hid (wi.heap[w.heap.size + 1]? = some (.cells #[.int .u32 nx, .slice AD nd cD, .slice (some ad) M cA, .bool kn, .int .u32 fq, .bool dn] 29 (0, 0))) ∧ Hid (Below w.heap.size w wi)) (fun t8 _ => ld - (intOf t8).toNat)
      case atStart => exact ⟨0, Nat.zero_le _, rfl, HOA, HXA, HQA, HBA2⟩
      case round =>
        obtain ⟨k, hk, rfl, HOI, HXI, HQI, HBI⟩ := hrel
        clear HOA HXA HQA HBA2
        obtain ⟨d0, d1, d2, d3, d4, d5⟩ := six_cells' HQI.out
        rename World => wi
        obtain ⟨hE0, hE1, hEB⟩ := heC.out wi HBI.out
        have hE1' := hE1
        rw [add_out (ad.add (m * 2)) (Nat.succ_ne_zero 0)] at hE1'
        by_cases hkl : k < ld
        · obtain ⟨b, hb⟩ : ∃ b, d[k]? = some b := ⟨_, List.getElem?_eq_getElem (by rw [HLD.out]; exact hkl)⟩
          have hcb := hEB k b hb
          have hgk := HBYT.out k b hb
          have hcg : wi.cell? ⟨g5, o + k, none⟩ = some (.int .i64 (-1)) := own_cell HOI.out (intsV_get (by rw [cutG_get hgk, if_neg (by omega)]))
          have HPUT := own_put (u := .int .i64 (b.toNat : Int)) HOI.out (show o + k < 256 by omega) rfl
          have HOI2 : Hid ((wi.setCell ⟨g5, o + k, none⟩ (.int .i64 (b.toNat : Int))).ownsRow (w.heap.size + 2) 3 1 (.slice (some ⟨g5, 0, none⟩) 256 c5) 256 (intsV (cutG gt (o + (k + 1))))) := by
            show World.ownsRow _ _ _ _ _ _ _
            rw [← Nat.add_assoc, ← cutG_set hgk]
            have h1 : (intsV (cutG gt (o + k))).set (o + k) (.int .i64 (b.toNat : Int)) = intsV ((cutG gt (o + k)).set (o + k) (b.toNat : Int)) := by unfold intsV; rw [List.map_set]
            rw [← h1]
            exact HPUT
          have HXI2 : Hid ((wi.setCell ⟨g5, o + k, none⟩ (.int .i64 (b.toNat : Int))).heap[w.heap.size]? = some (.cells #[.int .u32 nx, .string TX, .slice (some ax) 256 cx, .int .i64 fn, .bool dn] 33 (0, 0))) := (heap_setCell_other _ _ _ _ (by show w.heap.size ≠ g5; omega)).trans HXI.out
          have HQI2 : Hid ((wi.setCell ⟨g5, o + k, none⟩ (.int .i64 (b.toNat : Int))).heap[w.heap.size + 1]? = some (.cells #[.int .u32 nx, .slice AD nd cD, .slice (some ad) M cA, .bool kn, .int .u32 fq, .bool dn] 29 (0, 0))) := (heap_setCell_other _ _ _ _ (by show w.heap.size + 1 ≠ g5; omega)).trans HQI.out
          have HBI2 : Hid (Below w.heap.size w (wi.setCell ⟨g5, o + k, none⟩ (.int .i64 (b.toNat : Int)))) := HBI.out.setCell (p := ⟨g5, o + k, none⟩) (by show w.heap.size ≤ g5; omega) _
          have hfz : wi.frozen? ⟨g5, o + k, none⟩ = false := by
            obtain ⟨cur, hcur, _⟩ := own_at0 HOI.out (by omega)
            exact frozen_of_row _ _ _ _ _ hcur
          have hok2 : ¬ (o : Int) + (k : Int) < 0 := by omega
          have hok3 : (o : Int) + (k : Int) < 256 := by omega
          have hok4 : ((o : Int) + (k : Int)).toNat = o + k := by omega
          have hwb : wrap64 (b.toNat : Int) = (b.toNat : Int) := by
            have := b.toNat_lt
            unfold wrap64
            omega
          clear HPUT hgk hb
          go_wp2
          go_roundw
          case rel => exact ⟨k + 1, by omega, by go_num, HOI2, HXI2, HQI2, HBI2⟩
          case measure => simp [intOf]; omega
        · obtain rfl : k = ld := by omega
          go_wp2
          go_roundw
          case rel => exact ⟨m + 1, o + k, by omega, by go_num, HRST, HOI, HXI, HQI, HBI⟩
          case measure => simp [intOf]; omega
    · obtain rfl : m = M := by omega
      have HFULL : Hid (cutG gt tt = gt) := by
        have hp := HPW.out
        rw [List.drop_eq_nil_of_le (by rw [HPM.out]; exact Nat.le_refl _)] at hp
        exact cutG_all (fun c hc => (HBY.out c hc).1) hp
      rw [HFULL.out] at HOW
      have HRU : Hid (∀ w', Below wr.heap.size wr w' → Calls Try.prog 31 #[.slice (some ⟨g5, 0, none⟩) 256 c5] w' fun e w'' => e = .returned (.int .i64 (m : Int)) ∧ Below w'.heap.size w' w'') := fun w' hb => by
        have := refruns_any (.slice (some ⟨g5, 0, none⟩) 256 c5) gt (fun b => w.heap.size + 2 ≤ b) w' (rv_ints_own (ownk_below HOW.out hb (Nat.le_refl _)) HGL.out (fun b h => h)) (by rw [HGL.out]; omega)
        rwa [HCN.out] at this
      have HS2 := Lib.hid (var_cell HQW.out 2 rfl)
      have HBS : Hid (Below wr.heap.size wr wr) := Below.refl _ _
      go_upto_region 16 with (fail)
      refine wp_region_quiet_below (by kernel_rfl) (by kernel_rfl) ?_
      (first | go_big_quiet_step (fail) | quiet_step (fail))
      (refine wpQuiet_step (fun K hK => ?_); refine quiet_load_cell (by kernel_rfl) 27 _ rfl ((⟨w.heap.size + 1, 0, none⟩ : Addr).add 2) (by first | rfl | (simp [Act.eval, Addr.add_mid])) (.slice AA m cA) _ HS2.out Try.underlying27 rfl ?_; refine hK _ ?_; clear hK K; go_frame)
      (first | go_big_quiet_step (fail) | quiet_step (fail))
      (first | go_big_quiet_step (fail) | quiet_step (fail))
      quiet_step (first | (go_at_call 31; exact Calls.regrown_of (HRU.out _ (reg_below ⟨_, rfl⟩))))
      (first | go_big_quiet_step (fail) | quiet_step (fail))
      refine wpQuiet_nil ?_
      intro w9 hw9
      obtain ⟨⟨dq, osq⟩, rfl⟩ := hw9
      have HBA := Lib.hid ((HBS.out).trans ((below_regrown wr dq osq).mono (HBS.out).size))
      generalize Sort.grow (redrawn wr dq) osq = wa at *
      have HXA := Lib.hid (old_below HXW.out HBA.out (row_lt HXW.out))
      have HBA2 := Lib.hid (HBW.out.trans (HBA.out.mono HBW.out.size))
      have HOA := Lib.hid (ownk_below HOW.out HBA.out (Nat.le_refl _))
      clear HS2 HBS HRU HBA HXW HQW HOW HBW d0 d1 d2 d3 d4 d5
      go_wp2
      go_loopw [9] (fun t9 wi => ∃ k : Nat, k ≤ 256 ∧ t9 = .int .i64 (k : Int) ∧ Hid (wi.ownsRow (w.heap.size + 2) 3 1 (.slice (some ⟨g5, 0, none⟩) 256 c5) 256 (intsV (gt))) ∧ Hid (wi.heap[w.heap.size]? = some (.cells #[.int .u32 nx, .string TX, .slice (some ax) 256 cx, .int .i64 fn, .bool dn] 33 (0, 0))) ∧ Hid (Below w.heap.size w wi)) (fun t9 _ => 256 - (intOf t9).toNat)
      case atStart => exact ⟨0, Nat.zero_le _, rfl, HOA, HXA, HBA2⟩
      case round =>
        obtain ⟨k, hk, rfl, HOI, HXI, HBI⟩ := hrel
        clear HOA HXA HBA2
        rename World => wi
        by_cases hkl : k < 256
        · obtain ⟨z, hz⟩ : ∃ z, gt[k]? = some z := ⟨_, List.getElem?_eq_getElem (by rw [HGL.out]; exact hkl)⟩
          have HS2 := Lib.hid (var_cell HXI.out 2 rfl)
          have HA1 := Lib.hid (old_cell (HGX.out wi HBI.out k z hz))
          have HA2 : Hid (∀ w', Reg wi w' → w'.cell? ((⟨g5, 0, none⟩ : Addr).add k) = some (.int .i64 z)) := old_cell (by rw [Addr.add_mid, Nat.zero_add]; exact own_cell HOI.out (intsV_get hz))
          have HBS : Hid (Below wi.heap.size wi wi) := Below.refl _ _
          have hk0 : (0 : Int) ≤ (k : Int) := by omega
          have hki : (k : Int) < 256 := by omega
          clear hz
          go_upto_region 21 with (fail)
          refine wp_region_quiet_below (by kernel_rfl) (by kernel_rfl) ?_
          (first | go_big_quiet_step (fail) | quiet_step (fail))
          (first | go_big_quiet_step (fail) | quiet_step (fail))
          (first | go_big_quiet_step (fail) | quiet_step (fail))
          (refine wpQuiet_step (fun K hK => ?_); refine quiet_load_cell (by kernel_rfl) 3 _ rfl ((⟨g5, 0, none⟩ : Addr).add k) (by first | rfl | (simp [Act.eval, Addr.add_mid])) (.int .i64 z) _ HA2.out Try.underlying3 rfl ?_; refine hK _ ?_; clear hK K; go_frame)
          (first | go_big_quiet_step (fail) | quiet_step (fail))
          (refine wpQuiet_step (fun K hK => ?_); refine quiet_load_cell (by kernel_rfl) 31 _ rfl ((⟨w.heap.size, 0, none⟩ : Addr).add 2) (by first | rfl | (simp [Act.eval, Addr.add_mid])) (.slice (some ax) 256 cx) _ HS2.out Try.underlying31 rfl ?_; refine hK _ ?_; clear hK K; go_frame)
          (first | go_big_quiet_step (fail) | quiet_step (fail))
          (first | go_big_quiet_step (fail) | quiet_step (fail))
          (refine wpQuiet_step (fun K hK => ?_); refine quiet_load_cell (by kernel_rfl) 3 _ rfl (ax.add k) (by first | rfl | (simp [Act.eval, Addr.add_mid])) (.int .i64 z) _ HA1.out Try.underlying3 rfl ?_; refine hK _ ?_; clear hK K; go_frame)
          (first | go_big_quiet_step (fail) | quiet_step (fail))
          refine wpQuiet_nil ?_
          intro w9 hw9
          obtain ⟨⟨dq, osq⟩, rfl⟩ := hw9
          have HBA := Lib.hid ((HBS.out).trans ((below_regrown wi dq osq).mono (HBS.out).size))
          generalize Sort.grow (redrawn wi dq) osq = wb at *
          have HXI2 := Lib.hid (old_below HXI.out HBA.out (row_lt HXI.out))
          have HBI2 := Lib.hid (HBI.out.trans (HBA.out.mono HBI.out.size))
          have HOI2 := Lib.hid (ownk_below HOI.out HBA.out (Nat.le_refl _))
          go_wp2
          go_roundw
          case rel => exact ⟨k + 1, by omega, by go_num, HOI2, HXI2, HBI2⟩
          case measure => simp [intOf]; omega
        · obtain rfl : k = 256 := by omega
          go_wp2
          go_ret
          exact ⟨rfl, HBI.out⟩
end Go.Proofs.Ytdgfhcojmfgimaa
