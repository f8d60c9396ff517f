/-
  seq.Less; recvq.Window, and mayEnd with its function value and slices.ContainsFunc. Every state of not too many bytes and pieces.
-/
import Derived.Test.YtdgfhcojmfgimaaRdb
namespace Go.Proofs.Ytdgfhcojmfgimaa
open Go.RowKit

def beyQ (e : Int) (p : Pc) : Bool := decide (diffS e (addS p.seq p.data.length) < 0)
def mayQ (q : Rq) (e : Int) : Bool := decide (0 ≤ diffS e q.next ∧ diffS e q.next ≤ 256 - (q.data.length : Int)) && !q.ahead.any (beyQ e)
theorem sqadd_b (a n : Int) (w : World) : Calls Try.prog 24 #[.int .u32 a, .int .i64 n] w fun e w' => e = .returned (.int .u32 (addS a n)) ∧ Below w.heap.size w w' := (seqadd_any a n w).mono (by rintro e w' ⟨rfl, rfl⟩; exact ⟨rfl, Below.refl _ _⟩)
theorem sqdiff_b (a b : Int) (w : World) : Calls Try.prog 33 #[.int .u32 a, .int .u32 b] w fun e w' => e = .returned (.int .i64 (diffS a b)) ∧ Below w.heap.size w w' := (seqdiff_any a b w).mono (by rintro e w' ⟨rfl, rfl⟩; exact ⟨rfl, Below.refl _ _⟩)
theorem less_b (a b : Int) (w : World) : Calls Try.prog 36 #[.int .u32 a, .int .u32 b] w fun e w' => e = .returned (.bool (decide (diffS a b < 0))) ∧ Below w.heap.size w w' := by
  go_enter Try.func36, Try.ntmps36
  go_wp2_with fail
  refine (seqdiff_any _ _ _).mono ?_
  rintro e w1 ⟨rfl, rfl⟩
  go_wp2
  go_ret
  exact ⟨rfl, Below.refl _ _⟩
theorem diff_lo17 (a b : Int) : -2147483648 ≤ diffS a b ∧ diffS a b ≤ 2147483647 := by unfold diffS; omega
/-- Window -/
theorem win17 (q : Rq) (vD vA : Value) (S : Nat → Prop) (w : World) (hD : Rv w S vD (bytesD q.data)) (hl : q.data.length ≤ 1000) : Calls Try.prog 18 #[.agg (rqC q vD vA)] w fun e w' => e = .returned (.int .i64 (256 - (q.data.length : Int))) ∧ Below w.heap.size w w' := by
  obtain ⟨A, c, rfl, -, -, h3, h4⟩ := rv_bytes.1 hD
  obtain ⟨n, hn⟩ : ∃ n, q.data.length = n := ⟨_, rfl⟩
  rw [hn] at hl h3 ⊢
  have hc63 : c ≤ 9223372036854775807 := by unfold maxLen at h4; omega
  have HSB : Hid (IntKind.i64.wrap ((256 : Int) - (n : Int)) = 256 - n) := IntWalk.i64_in _ ⟨by omega, by omega⟩
  clear hD hn h4
  obtain ⟨w1, hw1⟩ : ∃ w1, w.alloc (.cells (rqC q (.slice A n c) vA) 29) = w1 := ⟨_, rfl⟩
  have HB : Hid (Below w.heap.size w w1) := by rw [← hw1]; exact (Below.refl _ _).alloc (Nat.le_refl _) _
  have HX : Hid (w1.heap[w.heap.size]? = some (.cells (rqC q (.slice A n c) vA) 29 (0, 0))) := by rw [← hw1]; exact heap_alloc_new w _
  have HS1 : Hid (w1.heap.size = w.heap.size + 1) := by show _ = _; rw [← hw1]; simp
  have HW := Lib.hid hw1
  clear hw1
  go_enter Try.func18, Try.ntmps18
  go_upto_region 1 with (fail)
  change Code.wp _ _ _ _ (w.alloc (.cells (rqC q (.slice A n c) vA) 29))
  rw [HW.out]
  clear HW

  have c1 : w1.cell? ⟨w.heap.size, 1, none⟩ = some (.slice A n c) := by rw [cell_of_row _ _ _ _ _ _ HX.out]; rfl
  have hsb := HSB.out
  go_wp2
  go_ret
  exact ⟨rfl, HB.out⟩
set_option maxRecDepth 100000 in
set_option maxHeartbeats 4000000 in
theorem bey1_any (sx : Int) (A : Option Addr) (n c : Nat) (e : Int) (b : Nat) (w : World) (hg : w.heap[b]? = some (.cells #[.int .u32 e] 22 (0, 0))) (_hn : n ≤ 1000) (_hc : n ≤ c) (hcm : c ≤ maxLen) : Calls Try.prog 35 #[.agg #[.int .u32 sx, .slice A n c], .pointer (some ⟨b, 0, none⟩)] w fun en w' => en = .returned (.bool (decide (diffS e (addS sx n) < 0))) ∧ Below w.heap.size w w' := by
  have hc63 : c ≤ 9223372036854775807 := by unfold maxLen at hcm; omega
  have HG := Lib.hid hg
  clear hg hcm
  obtain ⟨w1, hw1⟩ : ∃ w1, w.alloc (.cells (#[.int .u32 sx, .slice A n c]) 55) = w1 := ⟨_, rfl⟩
  have HB : Hid (Below w.heap.size w w1) := by rw [← hw1]; exact (Below.refl _ _).alloc (Nat.le_refl _) _
  have HX : Hid (w1.heap[w.heap.size]? = some (.cells (#[.int .u32 sx, .slice A n c]) 55 (0, 0))) := by rw [← hw1]; exact heap_alloc_new w _
  have HS1 : Hid (w1.heap.size = w.heap.size + 1) := by show _ = _; rw [← hw1]; simp
  have HW := Lib.hid hw1
  clear hw1
  go_enter Try.func35, Try.ntmps35
  go_upto_region 1 with (fail)
  change Code.wp _ _ _ _ (w.alloc (.cells (#[.int .u32 sx, .slice A n c]) 55))
  rw [HW.out]
  clear HW

  have HGX : Hid (w1.heap[b]? = some (.cells #[.int .u32 e] 22 (0, 0))) := old_below HG.out HB.out (row_lt HG.out)
  have H4 := Lib.hid (old_cell (w := w1) (ad := ⟨b, 0, none⟩) (v := .int .u32 e) (by rw [cell_of_row _ _ _ _ _ _ HGX.out]; rfl))
  have H6 := Lib.hid (var_cell HX.out 0 (v := .int .u32 sx) rfl)
  have H8 := Lib.hid (var_cell HX.out 1 (v := .slice A n c) rfl)
  have HADD := Lib.hid (fun w => sqadd_b sx n w)
  have HLES := Lib.hid (fun w => less_b e (addS sx n) w)
  have HBS : Hid (Below w1.heap.size w1 w1) := Below.refl _ _
  refine wp_region_quiet_below (by kernel_rfl) (by kernel_rfl) ?_
  (refine wpQuiet_step (fun K hK => ?_); refine quiet_load_cell (by kernel_rfl) 22 _ rfl ⟨b, 0, none⟩ (by first | rfl | (simp [Act.eval, Addr.add_mid])) (.int .u32 e) _ H4.out Try.underlying22 rfl ?_; refine hK _ ?_; clear hK K; go_frame)
  (first | go_big_quiet_step (fail) | quiet_step (fail))
  (refine wpQuiet_step (fun K hK => ?_); refine quiet_load_cell (by kernel_rfl) 22 _ rfl ((⟨w.heap.size, 0, none⟩ : Addr).add 0) (by first | rfl | (simp [Act.eval, Addr.add_mid])) (.int .u32 sx) _ H6.out Try.underlying22 rfl ?_; refine hK _ ?_; clear hK K; go_frame)
  (first | go_big_quiet_step (fail) | quiet_step (fail))
  (refine wpQuiet_step (fun K hK => ?_); refine quiet_load_cell (by kernel_rfl) 26 _ rfl ((⟨w.heap.size, 0, none⟩ : Addr).add 1) (by first | rfl | (simp [Act.eval, Addr.add_mid])) (.slice A n c) _ H8.out Try.underlying26 rfl ?_; refine hK _ ?_; clear hK K; go_frame)
  (first | go_big_quiet_step (fail) | quiet_step (fail))
  quiet_step (first | (go_at_call 24; exact Calls.regrown_of (HADD.out _)))
  quiet_step (first | (go_at_call 36; exact Calls.regrown_of (HLES.out _)))
  (first | go_big_quiet_step (fail) | quiet_step (fail))
  refine wpQuiet_nil ?_
  intro w9 hw9
  obtain ⟨⟨dq, osq⟩, rfl⟩ := hw9
  have HB2 := Lib.hid ((HBS.out).trans ((below_regrown w1 dq osq).mono (HBS.out).size))
  generalize Sort.grow (redrawn w1 dq) osq = w2 at *
  have HB3 := Lib.hid (HB.out.trans (HB2.out.mono HB.out.size))
  go_wp2
  go_ret
  exact ⟨rfl, HB3.out⟩
/-- the place of the first, -1 if there is none -/
def idxV {α : Type} (f : α → Bool) (l : List α) : Int := match l.findIdx? f with | some i => (i : Int) | none => -1
theorem idxV_any {α : Type} (f : α → Bool) (l : List α) : decide (0 ≤ idxV f l) = l.any f := by
  unfold idxV
  cases h : l.findIdx? f with
  | none =>
    have := List.findIdx?_eq_none_iff.1 h
    have : l.any f = false := List.any_eq_false.2 fun x hx => by simpa using this x hx
    rw [this]
    rfl
  | some i =>
    obtain ⟨hi, hp, _⟩ := List.findIdx?_eq_some_iff_getElem.1 h
    have : l.any f = true := List.any_eq_true.2 ⟨l[i], List.getElem_mem hi, hp⟩
    rw [this]
    exact decide_eq_true (Int.natCast_nonneg i)
set_option maxRecDepth 100000 in
set_option maxHeartbeats 4000000 in
theorem idx17_any (lo : Nat) (v : Value) (K : List Pc) (e : Int) (b : Nat) (w : World) (hv : PcsT lo w v K) (hl : K.length ≤ 1000) (hp9 : ∀ p ∈ K, p.data.length ≤ 1000) (hg : w.heap[b]? = some (.cells #[.int .u32 e] 22 (0, 0))) :
    Calls Try.prog 40 #[v, .func (.func 35) #[] #[.pointer (some ⟨b, 0, none⟩)]] w fun en w' => en = .returned (.int .i64 (idxV (beyQ e) K)) ∧ Below w.heap.size w w' := by
  obtain ⟨A, c, xs0, rfl, htr, hrow, hnc, hcm, hA⟩ := hv
  obtain ⟨n, hnn⟩ : ∃ n, K.length = n := ⟨_, rfl⟩
  rw [hnn] at hl hnc ⊢
  have hc63 : c ≤ 9223372036854775807 := by unfold maxLen at hcm; omega
  have HN := Lib.hid hnn
  have HTR := Lib.hid htr
  have HROW := Lib.hid hrow
  have HG := Lib.hid hg
  have HP9 := Lib.hid hp9
  clear hnn htr hrow hg hp9 hA hcm
  go_enter Try.func40, Try.ntmps40
  go_wp2
  go_loopw [8] (fun t8 wr => ∃ k : Nat, k ≤ n ∧ t8 = .int .i64 (k : Int) ∧ Hid (∀ j h, j < k → K[j]? = some h → beyQ e h = false) ∧ Hid (Below w.heap.size w wr)) (fun t8 _ => n - (intOf t8).toNat)
  case atStart => exact ⟨0, Nat.zero_le _, rfl, Lib.hid (fun j h hj => by omega), Lib.hid (Below.refl _ _)⟩
  case round =>
    obtain ⟨k, hk, rfl, HNO, HBEL⟩ := hrel
    by_cases hlt : k < n
    · obtain ⟨h, hh⟩ : ∃ h, K[k]? = some h := ⟨_, List.getElem?_eq_getElem (by rw [HN.out]; exact hlt)⟩
      obtain ⟨vx, hcv, A2, c2, rfl, htb, hb1, hb2, _⟩ := HROW.out.2 k h hh
      have hm9 := HP9.out h (List.mem_of_getElem? hh)
      obtain ⟨ad, rfl⟩ : ∃ ad, A = some ad := by
        obtain ⟨ad, e, _⟩ := HTR.out.rd 0 _ (List.getElem?_eq_getElem (by rw [HROW.out.1, HN.out]; omega))
        exact ⟨ad, e⟩
      obtain ⟨m2, hm2⟩ : ∃ m2, h.data.length = m2 := ⟨_, rfl⟩
      obtain ⟨sx, hsx⟩ : ∃ sx, h.seq = sx := ⟨_, rfl⟩
      rw [hsx] at hcv
      rw [hm2] at hcv hb1 hm9
      have HEL : Hid (∀ j v, ([.int .u32 sx, .slice A2 m2 c2] : List Value)[j]? = some v → wr.cell? ((ad.add (k * 2)).add j) = some v) := by
        show ∀ j v, _
        rw [← hcv]
        exact ((HTR.out.rd.below HBEL.out (Nat.le_refl _)).elem k)
      have HBQ : Hid (beyQ e h = decide (diffS e (addS sx m2) < 0)) := by show _ = _; unfold beyQ; rw [hsx, hm2]
      have HHK := Lib.hid hh
      have HC1 := Lib.hid (bey1_any sx A2 m2 c2 e b wr (old_below HG.out HBEL.out (row_lt HG.out)) hm9 hb1 hb2)
      clear hh hcv htb hb1 hb2 hm9 hm2 hsx
      go_wp2_with (refine wpList_load_at rfl 55 _ rfl (ad.add (k * 2)) rfl [.int .u32 sx, .slice A2 m2 c2] _ HEL.out Try.underlying55 rfl (by kernel_rfl) ?_)
      refine HC1.out.mono ?_
      rintro en w2 ⟨rfl, hb⟩
      rw [← HBQ.out]
      have HB2 := Lib.hid (HBEL.out.trans (hb.mono HBEL.out.size))
      clear hb
      cases hbl : beyQ e h
      · have HN2 := Lib.hid (no_next HNO.out HHK.out hbl)
        clear hbl
        go_wp2
        go_roundw
        case rel => exact ⟨k + 1, by omega, by go_num, HN2, HB2⟩
        case measure => simp [intOf]; omega
      · have HV : Hid (idxV (beyQ e) K = (k : Int)) := by
          show _ = _
          unfold idxV
          rw [idx_some HHK.out hbl HNO.out]
        clear hbl
        go_wp2
        go_ret
        exact ⟨by rw [HV.out]; rfl, HB2.out⟩
    · obtain rfl : k = n := by omega
      have HV : Hid (idxV (beyQ e) K = -1) := by
        show _ = _
        unfold idxV
        rw [idx_none fun j h hj hj2 => HNO.out j h (by rw [← HN.out]; exact hj) hj2]
      go_wp2
      go_ret
      exact ⟨by rw [HV.out]; rfl, HBEL.out⟩
theorem cont17_any (lo : Nat) (v : Value) (K : List Pc) (e : Int) (b : Nat) (w : World) (hv : PcsT lo w v K) (hl : K.length ≤ 1000) (hp9 : ∀ p ∈ K, p.data.length ≤ 1000) (hg : w.heap[b]? = some (.cells #[.int .u32 e] 22 (0, 0))) :
    Calls Try.prog 37 #[v, .func (.func 35) #[] #[.pointer (some ⟨b, 0, none⟩)]] w fun en w' => en = .returned (.bool (K.any (beyQ e))) ∧ Below w.heap.size w w' := by
  have HC := Lib.hid (idx17_any lo v K e b w hv hl hp9 hg)
  rw [← idxV_any]
  generalize idxV (beyQ e) K = z at HC ⊢
  clear hv hg hp9
  go_enter Try.func37, Try.ntmps37
  go_wp2_with fail
  refine HC.out.mono ?_
  rintro en w2 ⟨rfl, hb⟩
  have HB2 := Lib.hid hb
  clear hb
  go_wp2
  go_ret
  exact ⟨rfl, HB2.out⟩
set_option maxRecDepth 100000 in
set_option maxHeartbeats 4000000 in
theorem mayend_any (lo lo2 : Nat) (q : Rq) (cs : Array Value) (e : Int) (w : World) (hq : RqT lo lo2 w cs q) (hl : q.data.length ≤ 1000) (ha : q.ahead.length ≤ 1000) (hp9 : ∀ p ∈ q.ahead, p.data.length ≤ 1000) : Calls Try.prog 25 #[.agg cs, .int .u32 e] w fun en w' => en = .returned (.bool (mayQ q e)) ∧ Below w.heap.size w w' := by
  obtain ⟨vD, vA, rfl, hD, -, hA⟩ := hq
  have hD := (own_tb hD).rv
  obtain ⟨w1, hw1⟩ : ∃ w1, (w.alloc (.cells (rqC q vD vA) 29)).alloc (.cells #[.int .u32 e] 22) = w1 := ⟨_, rfl⟩
  have HB : Hid (Below w.heap.size w w1) := by rw [← hw1]; exact ((Below.refl _ _).alloc (Nat.le_refl _) _).alloc (by simp) _
  have HX : Hid (w1.heap[w.heap.size]? = some (.cells (rqC q vD vA) 29 (0, 0))) := by rw [← hw1]; exact old_alloc (heap_alloc_new w _) _
  have HZ : Hid (w1.heap[w.heap.size + 1]? = some (.cells #[.int .u32 e] 22 (0, 0))) := by rw [← hw1]; exact new_at1 w _ _
  have HW := Lib.hid hw1
  obtain ⟨f, hf⟩ : ∃ f, diffS e q.next = f := ⟨_, rfl⟩
  have hfb := diff_lo17 e q.next
  rw [hf] at hfb
  have HF := Lib.hid hf
  have HV : Hid (mayQ q e = (decide (0 ≤ f ∧ f ≤ 256 - (q.data.length : Int)) && !q.ahead.any (beyQ e))) := by show _ = _; unfold mayQ; rw [hf]
  have HWI := Lib.hid (fun W (hb : Below w1.heap.size w1 W) => win17 q vD vA (fun b => lo ≤ b) W ((rv_below hD (HB.out.trans (hb.mono HB.out.size)))) hl)
  have HCT := Lib.hid (fun W (hb : Below w1.heap.size w1 W) => cont17_any lo2 vA q.ahead e (w.heap.size + 1) W (hA.keeps (Keeps.below (HB.out.trans (hb.mono HB.out.size)) (Nat.le_refl _))) ha hp9 (old_below HZ.out hb (row_lt HZ.out)))
  have z0 : w1.cell? ⟨w.heap.size + 1, 0, none⟩ = some (.int .u32 e) := by rw [cell_of_row _ _ _ _ _ _ HZ.out]; rfl
  obtain ⟨d, hd⟩ : ∃ d, q.data.length = d := ⟨_, rfl⟩
  rw [hd] at HV HWI hl
  generalize q.ahead.any (beyQ e) = an at HV HCT
  have hv1 : vA.oneCell' = true := hA.one
  clear hw1 hD hA hf ha hp9 hd
  go_enter Try.func25, Try.ntmps25
  go_upto_region 1 with (fail)
  change Code.wp _ _ _ _ ((w.alloc (.cells (rqC q vD vA) 29)).alloc (.cells #[.int .u32 e] 22))
  rw [HW.out]
  clear HW
  have b0 : w1.cell? ⟨w.heap.size, 0, none⟩ = some (.int .u32 q.next) := (rq_cells HX.out).1
  go_wp2_with fail
  refine (seqdiff_any _ _ _).mono ?_
  rintro en w2 ⟨rfl, rfl⟩
  rw [HF.out]
  clear b0
  obtain ⟨b0, b1, b2, b3, b4, b5⟩ := rq_cells HX.out
  have HX2 := Lib.hid (fun W (hb : Below w1.heap.size w1 W) => rq_cells (old_below HX.out hb (row_lt HX.out)))
  by_cases c1 : 0 ≤ f
  · have hd1 : decide (0 ≤ f) = true := decide_eq_true c1
    by_cases c2 : f ≤ 256 - (d : Int)
    · have HR : Hid (mayQ q e = !an) := by show _ = _; rw [HV.out, decide_eq_true ⟨c1, c2⟩]; rfl
      go_wp2_with fail
      refine (HWI.out _ (Below.refl _ _)).mono ?_
      rintro en w2 ⟨rfl, hb2⟩
      obtain ⟨-, -, d2, -, -, -⟩ := HX2.out w2 hb2
      go_wp2_with fail
      refine (HCT.out _ hb2).mono ?_
      rintro en w3 ⟨rfl, hb3⟩
      have HB3 := Lib.hid (HB.out.trans ((hb2.trans (hb3.mono hb2.size)).mono HB.out.size))
      clear hb2 hb3 d2
      go_wp2
      go_ret
      exact ⟨by rw [HR.out]; rfl, HB3.out⟩
    · have HR : Hid (mayQ q e = false) := by show _ = _; rw [HV.out, decide_eq_false (fun h => c2 h.2)]; rfl
      have hd2 : decide (f ≤ 256 - (d : Int)) = false := decide_eq_false c2
      go_wp2_with fail
      refine (HWI.out _ (Below.refl _ _)).mono ?_
      rintro en w2 ⟨rfl, hb2⟩
      have HB3 := Lib.hid (HB.out.trans (hb2.mono HB.out.size))
      clear hb2
      go_wp2
      go_ret
      exact ⟨by rw [HR.out]; rfl, HB3.out⟩
  · have hd1 : decide (0 ≤ f) = false := decide_eq_false c1
    have HR : Hid (mayQ q e = false) := by show _ = _; rw [HV.out, decide_eq_false (fun h => c1 h.1)]; rfl
    go_wp2
    go_ret
    exact ⟨by rw [HR.out]; rfl, HB.out⟩
end Go.Proofs.Ytdgfhcojmfgimaa
