/-
  frag.fits: whether a piece and what came of its packet can be parts of one; the function value that it hands to slices.ContainsFunc. Every piece and hole that can be read. No condition.
-/
import Derived.Test.YtogplhdcicajgaaPacket
import Derived.Lib.QuietBelow
import Derived.BigQuiet
namespace Go.Proofs.Ytogplhdcicajgaa
open Go.RowKit

theorem quiet_load_row {P : Program} {ops : Array Oper} {C : World → Prop} {K : Act → Prop} {o : Oper} {a : Act} (hg : Region.wanted o (yielded ops a.tmps) = true) (ty : TypeId) (x : Operand) (ho : o.op = .load ty x) (g : Nat) (hx : a.eval x = .pointer (some ⟨g, 0, none⟩)) (t : TypeId) (cs : Array Value) (fr : Nat × Nat) (d : TypeDesc)
    (hgg : ∀ w, C w → w.heap[g]? = some (.cells cs t fr)) (hu : P.underlying ty = some d) (hd : d.isRow = true) (hi : (P.info? ty).map (·.size) = some cs.size) (h : K (a.put o.dst (.agg cs))) :
    if Region.wanted o (yielded ops a.tmps) = true then o.quiet P a C K else K (a.put o.dst undef) := by
  rw [if_pos hg]
  refine ⟨.agg cs, fun w hw => ?_, h⟩
  have hl := run_loadVar_row (P := P) w g t ty cs fr d (hgg w hw) hu (by cases d <;> first | rfl | cases hd) hi
  unfold Oper.quietAt execOp
  simp only [ho, hx, Instr.loadAt, Instr.sureAddr, Sem.run_bind, Sem.run_pure, Result.andThen_ok, hl]
  exact ⟨rfl, rfl⟩
theorem row_regrown {w : World} {g : Nat} {o : Obj} (h : w.heap[g]? = some o) (d : Nat) (os : Array Obj) : (Sort.grow (redrawn w d) os).heap[g]? = some o := ((below_regrown w d os).block g (row_lt h)).trans h

set_option maxRecDepth 100000 in
set_option maxHeartbeats 4000000 in
theorem further_any (cs ds : Array Value) (p : Pk) (t : Pt) (lo hi b : Nat) (w : World) (hp : PkV w lo hi cs p) (hhi : hi ≤ w.heap.size) (hg : w.heap[b]? = some (.cells cs 27 (0, 0))) (h0 : 0 ≤ p.off) (h1 : p.off ≤ 1000) (hm : p.data.length ≤ 1000000000) (hh : PtT w ds.toList t) (hto : t.ok) :
    Calls Try.prog 26 #[.agg ds, .pointer (some ⟨b, 0, none⟩)] w fun e w' => e = .returned (.bool (furtherB p t)) ∧ Below w.heap.size w w' := by
  obtain ⟨v, he, A2, c2, rfl, _⟩ := hh
  have HF : Hid (furtherB p t = decide (endP p - (t.data.length : Int) < t.off)) := rfl
  have hE : 0 ≤ endP p ∧ endP p ≤ 1000001000 := by unfold endP; omega
  obtain ⟨E, hEE⟩ : ∃ E, endP p = E := ⟨_, rfl⟩
  obtain ⟨hto0, hto1, hto2, _⟩ := hto
  obtain ⟨m, hmm⟩ : ∃ m, t.data.length = m := ⟨_, rfl⟩
  obtain ⟨o, hoo⟩ : ∃ o, t.off = o := ⟨_, rfl⟩
  rw [hmm, hoo] at he
  rw [hEE, hmm, hoo] at HF
  rw [hEE] at hE
  rw [hmm] at hto2
  rw [hoo] at hto0 hto1
  have HEE := Lib.hid hEE
  have he2 : ds = #[.int .i64 o, .slice A2 m c2] := by
    apply Array.ext'
    rw [he]
  subst he2
  obtain ⟨hE0, hE1⟩ := hE
  obtain ⟨w6, hw6⟩ : ∃ w6, w.alloc (.cells #[.int .i64 o, .slice A2 m c2] 60) = w6 := ⟨_, rfl⟩
  have HB6 : Hid (Below w.heap.size w w6) := by rw [← hw6]; exact (Below.refl _ _).alloc (Nat.le_refl _) _
  have hx : w6.heap[b]? = some (.cells cs 27 (0, 0)) := by rw [← hw6]; exact old_alloc hg _
  have hy : w6.heap[w.heap.size]? = some (.cells #[.int .i64 o, .slice A2 m c2] 60 (0, 0)) := by rw [← hw6]; exact heap_alloc_new w _
  have z0 := cell_of_row w6 w.heap.size 0 _ _ _ hy
  have z1 := cell_of_row w6 w.heap.size 1 _ _ _ hy
  simp at z0 z1
  have k0 := cell_regrown z0
  have k1 := cell_regrown z1
  have kg : ∀ w', (∃ p : Regrown, w' = Sort.grow (redrawn w6 p.d) p.os) → w'.heap[b]? = some (.cells cs 27 (0, 0)) := fun w' ⟨q, hq⟩ => by rw [hq]; exact row_regrown hx _ _
  have KG := Lib.hid kg
  have hcs : ∀ d os, Calls Try.prog 12 #[.agg cs] (Sort.grow (redrawn w6 d) os) fun e w'' => e = .returned (.int .i64 E) ∧ ∃ p : Regrown, w'' = Sort.grow (redrawn w6 p.d) p.os := fun d os => by
    rw [← HEE.out]
    exact Calls.regrown_of (end_any cs p lo hi _ ((hp.below HB6.out hhi).below (below_regrown w6 d os) (Nat.le_trans hhi HB6.out.size)) h0 h1 hm)
  have HCS := Lib.hid hcs
  have HS1 : Hid (cs.size = 14) := hp.size
  have hwr : IntKind.i64.wrap (E - (m : Int)) = E - (m : Int) := IntWalk.i64_in _ ⟨by omega, by omega⟩
  clear hp hg hEE hmm hoo he hx hy z0 z1 kg hcs hm h0 h1
  go_enter Try.func26, Try.ntmps26
  go_wp2_with fail
  (try rw [hw6])
  clear hw6
  refine wp_region_quiet_below (by kernel_rfl) (by kernel_rfl) ?_
  repeat (first | (refine wpQuiet_step (fun K hK => ?_); refine quiet_load_row (by rfl) 27 _ rfl b rfl _ cs _ _ KG.out Try.underlying27 rfl (size_pk HS1.out) ?_; refine hK _ ?_; clear hK K) | quiet_step (first | (go_at_call 12; exact HCS.out _ _)))
  refine wpQuiet_nil ?_
  intro _ hw'
  obtain ⟨⟨dq, osq⟩, hw''⟩ := hw'
  subst hw''
  have HB := Lib.hid (HB6.out.trans ((below_regrown w6 dq osq).mono HB6.out.size))
  go_wp2
  go_ret
  exact ⟨by rw [HF.out]; rfl, HB.out⟩
set_option maxRecDepth 100000 in
set_option maxHeartbeats 4000000 in
theorem indexp_any (v : Value) (hs : List Pt) (cs : Array Value) (p : Pk) (lo hi b : Nat) (w : World) (hv : PtsT w v hs) (hl : hs.length ≤ 1000) (hok : ∀ t ∈ hs, t.ok) (h0 : 0 ≤ p.off) (h1 : p.off ≤ 1000) (hm : p.data.length ≤ 1000000000) (hp : PkV w lo hi cs p) (hhi : hi ≤ w.heap.size) (hg : w.heap[b]? = some (.cells cs 27 (0, 0))) :
    Calls Try.prog 30 #[v, .func (.func 26) #[] #[.pointer (some ⟨b, 0, none⟩)]] w fun e w' => e = .returned (.int .i64 (idxV (furtherB p) hs)) ∧ Below w.heap.size w w' := by
  obtain ⟨A, c, xs, rfl, htr, hrow, _⟩ := hv
  obtain ⟨n, hnn⟩ : ∃ n, hs.length = n := ⟨_, rfl⟩
  rw [hnn] at hl ⊢
  have HN := Lib.hid hnn
  have HTR := Lib.hid htr
  have HROW := Lib.hid hrow
  have HP := Lib.hid hp
  have HHI := Lib.hid hhi
  have HG := Lib.hid hg
  have HOK := Lib.hid hok
  have H01 := Lib.hid (And.intro h0 (And.intro h1 hm))
  clear hnn htr hrow hp hhi hg hok h0 h1 hm
  go_enter Try.func30, Try.ntmps30
  go_wp2
  go_loopw [8] (fun t8 wr => ∃ k : Nat, k ≤ n ∧ t8 = .int .i64 (k : Int) ∧ Hid (∀ j h, j < k → hs[j]? = some h → furtherB p h = false) ∧ Hid (Below w.heap.size w wr)) (fun t8 _ => n - (intOf t8).toNat)
  case atStart => exact ⟨0, Nat.zero_le _, rfl, Lib.hid (fun j h hj => by omega), Lib.hid (Below.refl _ _)⟩
  case round =>
    obtain ⟨k, hk, rfl, HNO, HBEL⟩ := hrel
    by_cases hlt : k < n
    · obtain ⟨h, hh⟩ : ∃ h, hs[k]? = some h := ⟨_, List.getElem?_eq_getElem (by rw [HN.out]; exact hlt)⟩
      have hx := HTR.out.rd
      obtain ⟨ad, rfl⟩ : ∃ ad, A = some ad := by
        obtain ⟨ad, e, _⟩ := hx 0 _ (List.getElem?_eq_getElem (by rw [HROW.out.1, HN.out]; omega))
        exact ⟨ad, e⟩
      obtain ⟨ds, hds⟩ : ∃ ds, (xs.drop (k * 2)).take 2 = ds := ⟨_, rfl⟩
      have HH : Hid (PtT w ds h) := by rw [← hds]; exact HROW.out.2 k h hh
      have HEL : Hid (∀ j v, ds[j]? = some v → wr.cell? ((ad.add (k * 2)).add j) = some v) := by
        rw [← hds]
        exact ((hx.below HBEL.out (Nat.le_refl _)).elem k)
      have HHK := Lib.hid hh
      clear hh hx hds
      go_wp2_with (refine wpList_load_at rfl 60 _ rfl (ad.add (k * 2)) rfl ds _ HEL.out Try.underlying60 rfl (by rw [HH.out.len]; kernel_rfl) ?_)
      refine (further_any cs ds.toArray p h lo hi b wr (HP.out.below HBEL.out HHI.out) (Nat.le_trans HHI.out HBEL.out.size) ((HBEL.out.block _ (row_lt HG.out)).trans HG.out) H01.out.1 H01.out.2.1 H01.out.2.2 (HH.out.keeps (Keeps.below HBEL.out (Nat.le_refl _))) (HOK.out h (List.mem_of_getElem? HHK.out))).mono ?_
      rintro e w2 ⟨rfl, hb⟩
      have HB2 := Lib.hid (HBEL.out.trans (hb.mono HBEL.out.size))
      clear hb
      cases hbl : furtherB p h
      · have HN2 : Hid (∀ j h, j < k + 1 → hs[j]? = some h → furtherB p h = false) := fun j h' hj hj2 => by
          by_cases hjk : j < k
          · exact HNO.out j h' hjk hj2
          · obtain rfl : j = k := by omega
            rw [HHK.out] at hj2
            injection hj2 with hj2
            rw [← hj2]
            exact hbl
        clear hbl
        go_wp2
        go_roundw
        case rel => exact ⟨k + 1, by omega, by go_num, HN2, HB2⟩
        case measure => simp [intOf]; omega
      · have HV : Hid (idxV (furtherB p) hs = (k : Int)) := by
          show _ = _
          unfold idxV
          rw [idx_some HHK.out hbl HNO.out]
        clear hbl
        go_wp2
        go_ret
        exact ⟨by rw [HV.out]; rfl, HB2.out⟩
    · obtain rfl : k = n := by omega
      have HV : Hid (idxV (furtherB p) hs = -1) := by
        show _ = _
        unfold idxV
        rw [idx_none fun j h hj hj2 => HNO.out j h (by rw [← HN.out]; exact hj) hj2]
      go_wp2
      go_ret
      exact ⟨by rw [HV.out]; rfl, HBEL.out⟩
set_option maxHeartbeats 400000 in
theorem contains_any (v : Value) (hs : List Pt) (cs : Array Value) (p : Pk) (lo hi b : Nat) (w : World) (hv : PtsT w v hs) (hl : hs.length ≤ 1000) (hok : ∀ t ∈ hs, t.ok) (h0 : 0 ≤ p.off) (h1 : p.off ≤ 1000) (hm : p.data.length ≤ 1000000000) (hp : PkV w lo hi cs p) (hhi : hi ≤ w.heap.size) (hg : w.heap[b]? = some (.cells cs 27 (0, 0))) :
    Calls Try.prog 27 #[v, .func (.func 26) #[] #[.pointer (some ⟨b, 0, none⟩)]] w fun e w' => e = .returned (.bool (hs.any (furtherB p))) ∧ Below w.heap.size w w' := by
  have HC := Lib.hid (indexp_any v hs cs p lo hi b w hv hl hok h0 h1 hm hp hhi hg)
  have HV : Hid (decide (0 ≤ idxV (furtherB p) hs) = hs.any (furtherB p)) := by
    show _ = _
    unfold idxV
    cases hi : hs.findIdx? (furtherB p) with
    | none =>
      have := List.findIdx?_eq_none_iff.1 hi
      have h2 : hs.any (furtherB p) = false := List.any_eq_false.2 fun x hx => by rw [this x hx]; simp
      rw [h2]
      rfl
    | some i =>
      obtain ⟨hlt, hp, _⟩ := List.findIdx?_eq_some_iff_getElem.1 hi
      have h2 : hs.any (furtherB p) = true := List.any_eq_true.2 ⟨_, List.getElem_mem hlt, hp⟩
      rw [h2]
      exact decide_eq_true (by simp only; omega)
  obtain ⟨A, c, xs, rfl, _⟩ := hv
  clear hl hok h0 h1 hm hp hhi hg
  generalize idxV (furtherB p) hs = z at HC HV
  generalize hs.any (furtherB p) = r at HV ⊢
  go_enter Try.func27, Try.ntmps27
  go_wp2_with fail
  refine HC.out.mono ?_
  rintro e w2 ⟨rfl, hb⟩
  have HB := Lib.hid hb
  clear hb
  go_wp2
  go_ret
  exact ⟨by rw [← HV.out]; rfl, HB.out⟩

end Go.Proofs.Ytogplhdcicajgaa
