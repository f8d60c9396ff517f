/-
  recvq.New, Ended and Read over the code's states. Every state of not too many bytes.
-/
import Derived.Test.YtdgfhcojmfgimaaRdp
import Derived.Test.YtdgfhcojmfgimaaRdg
namespace Go.Proofs.Ytdgfhcojmfgimaa
open Go.RowKit

theorem new17 (n : Int) (w : World) : Calls Try.prog 10 #[.int .u32 n] w fun e w' => e = .returned (.agg (rqC ⟨n, [], [], false, 0, false⟩ (.slice none 0 0) (.slice none 0 0))) ∧ Below w.heap.size w w' := by
  obtain ⟨w1, hw1⟩ : ∃ w1, w.alloc (.cells Zrq 29) = w1 := ⟨_, rfl⟩
  have HB : Hid (Below w.heap.size w w1) := by rw [← hw1]; exact (Below.refl _ _).alloc (Nat.le_refl _) _
  have HX : Hid (w1.heap[w.heap.size]? = some (.cells Zrq 29 (0, 0))) := by rw [← hw1]; exact heap_alloc_new w _
  have HW := Lib.hid hw1
  clear hw1
  go_enter Try.func10, Try.ntmps10
  go_upto_region 1 with (fail)
  change Code.wp _ _ _ _ (w.alloc (.cells Zrq 29))
  rw [HW.out]
  clear HW
  go_wp2_with (refine wpList_store_row rfl 29 _ _ rfl w.heap.size (rqC ⟨n, [], [], false, 0, false⟩ (.slice none 0 0) (.slice none 0 0)) rfl rfl 29 Zrq HX.out (by kernel_rfl) rfl (rqc_ones rfl rfl) ?_)
  refine ret_one (g := w.heap.size) rfl rfl (setRow_heap _ _ _ _ _ _ HX.out) Try.underlying29 rfl (by kernel_rfl) rfl ?_
  exact ⟨rfl, below_setRow HB.out (Nat.le_refl _) _⟩
theorem end17 (q : Rq) (vD vA : Value) (S : Nat → Prop) (w : World) (hD : Rv w S vD (bytesD q.data)) (hl : q.data.length ≤ 1000) : Calls Try.prog 20 #[.agg (rqC q vD vA)] w fun e w' => e = .returned (.bool (q.done && q.data.isEmpty)) ∧ Below w.heap.size w w' := by
  obtain ⟨A, c, rfl, -, -, h3, h4⟩ := rv_bytes.1 hD
  obtain ⟨n, hn⟩ : ∃ n, q.data.length = n := ⟨_, rfl⟩
  have HE : Hid (q.data.isEmpty = decide (n = 0)) := by
    show _ = _
    rw [← hn]
    cases q.data <;> simp
  rw [hn] at h3 hl ⊢
  have hc63 : c ≤ 9223372036854775807 := by unfold maxLen at h4; omega
  clear hD hn h4
  obtain ⟨w1, hw1⟩ : ∃ w1, w.alloc (.cells (rqC q (.slice A n c) vA) 29) = w1 := ⟨_, rfl⟩
  have HB : Hid (Below w.heap.size w w1) := by rw [← hw1]; exact (Below.refl _ _).alloc (Nat.le_refl _) _
  have HX : Hid (w1.heap[w.heap.size]? = some (.cells (rqC q (.slice A n c) vA) 29 (0, 0))) := by rw [← hw1]; exact heap_alloc_new w _
  have HS1 : Hid (w1.heap.size = w.heap.size + 1) := by show _ = _; rw [← hw1]; simp
  have HW := Lib.hid hw1
  clear hw1
  go_enter Try.func20, Try.ntmps20
  go_upto_region 1 with (fail)
  change Code.wp _ _ _ _ (w.alloc (.cells (rqC q (.slice A n c) vA) 29))
  rw [HW.out]
  clear HW
  have c1 : w1.cell? ⟨w.heap.size, 1, none⟩ = some (.slice A n c) := by rw [cell_of_row _ _ _ _ _ _ HX.out]; rfl
  have c5 : w1.cell? ⟨w.heap.size, 5, none⟩ = some (.bool q.done) := by rw [cell_of_row _ _ _ _ _ _ HX.out]; rfl
  obtain ⟨dn, hdn⟩ : ∃ dn, q.done = dn := ⟨_, rfl⟩
  rw [hdn] at c5
  have HDN := Lib.hid hdn
  clear hdn
  cases dn
  · go_wp2
    go_ret
    exact ⟨by rw [HDN.out]; rfl, HB.out⟩
  · by_cases h0 : n = 0
    · subst h0
      go_wp2
      go_ret
      exact ⟨by rw [HDN.out, HE.out]; rfl, HB.out⟩
    · have hb : ((n : Int) == 0) = false := by simp; omega
      have hd0 : decide (n = 0) = false := decide_eq_false h0
      rw [hd0] at HE
      clear h0 hd0
      go_wp2
      go_ret
      exact ⟨by rw [HDN.out, HE.out]; rfl, HB.out⟩
theorem take_bytes {w : World} {S : Nat → Prop} {A : Option Addr} {n c k : Nat} {l : List UInt8} (h : Rv w S (.slice A n c) (bytesD l)) (hn : l.length = n) (hk : k ≤ n) : Rv w S (.slice A k c) (bytesD (l.take k)) := by
  subst hn
  obtain ⟨A', c', e, h1, h2, h3, h4⟩ := rv_bytes.1 h
  injection e with e1 _ e3
  subst e1 e3
  refine rv_bytes.2 ⟨A, c, by rw [List.length_take, Nat.min_eq_left hk], fun j u hj => h1 j u ?_, h2, by rw [List.length_take]; omega, h4⟩
  have : (cells (l.take k)) = (cells l).take k := by unfold cells; rw [List.map_take]
  rw [this, List.getElem?_take] at hj
  split at hj
  · exact hj
  · cases hj
/-- how many are read -/
def cutQ (q : Rq) (z : Int) : Nat := (max 0 (min z q.data.length)).toNat
set_option maxRecDepth 100000 in
set_option maxHeartbeats 4000000 in
theorem read17 (q : Rq) (vD0 vA0 : Value) (S : Nat → Prop) (z : Int) (w : World) (hr : Rvs w S (rqC q vD0 vA0).toList (rqD q)) (hdl : q.data.length ≤ 1000) (hal : q.ahead.length ≤ 1000) (hap : ∀ t ∈ q.ahead, t.data.length ≤ 1000) (hz : I64 z) :
    Calls Try.prog 12 #[.agg (rqC q vD0 vA0), .int .i64 z] w fun en w' => ∃ (cs' : Array Value) (v : Value), en = .returned (.tuple #[.agg cs', v]) ∧ Rvs w' (fun b => w.heap.size ≤ b) cs'.toList (rqD { q with data := q.data.drop (cutQ q z) }) ∧ Rv w' (fun b => w.heap.size ≤ b) v (bytesD (q.data.take (cutQ q z))) ∧ Below w.heap.size w w' := by
  obtain ⟨k, hk⟩ : ∃ k, cutQ q z = k := ⟨_, rfl⟩
  obtain ⟨d, hd⟩ : ∃ d, q.data.length = d := ⟨_, rfl⟩
  have HK : Hid (k = (max 0 (min z (d : Int))).toNat) := by show _ = _; rw [← hk, ← hd]; rfl
  rw [hk]
  rw [hd] at hdl
  have HDD := Lib.hid hd
  have HR0 := Lib.hid hr
  have HAP := Lib.hid hap
  obtain ⟨hz1, hz2⟩ := hz
  clear hr hap hk hd
  obtain ⟨w1, hw1⟩ : ∃ w1, (w.alloc (.cells (rqC q vD0 vA0) 29)).alloc (.cells Zrq 29) = w1 := ⟨_, rfl⟩
  have HB : Hid (Below w.heap.size w w1) := by rw [← hw1]; exact ((Below.refl _ _).alloc (Nat.le_refl _) _).alloc (by simp) _
  have HX : Hid (w1.heap[w.heap.size]? = some (.cells (rqC q vD0 vA0) 29 (0, 0))) := by rw [← hw1]; exact old_alloc (heap_alloc_new w _) _
  have HZ : Hid (w1.heap[w.heap.size + 1]? = some (.cells Zrq 29 (0, 0))) := by rw [← hw1]; exact new_at1 w _ _
  have HS1 : Hid (w1.heap.size = w.heap.size + 2) := by show _ = _; rw [← hw1]; simp
  have HW := Lib.hid hw1
  clear hw1
  go_enter Try.func12, Try.ntmps12
  go_upto_region 1 with (fail)
  change Code.wp _ _ _ _ ((w.alloc (.cells (rqC q vD0 vA0) 29)).alloc (.cells Zrq 29))
  rw [HW.out]
  clear HW
  go_wp2_with (refine wpList_load_row rfl 29 _ rfl w.heap.size rfl 29 (rqC q vD0 vA0) (0, 0) _ HX.out Try.underlying29 rfl (by kernel_rfl) ?_)
  refine (qclone_any q (rqC q vD0 vA0) S w1 (rvs_below HR0.out HB.out) (by rw [HDD.out]; exact hdl) (by omega) HAP.out).mono ?_
  rintro en w2 ⟨cs2, lo2, rfl, hq2, hlo, hlo2, hb2⟩
  obtain ⟨vD, vA, rfl, hDD, hDl, hAA⟩ := hq2
  have HX2 := Lib.hid (old_below HX.out hb2 (row_lt HX.out))
  have HZ2 := Lib.hid (old_below HZ.out hb2 (row_lt HZ.out))
  have HB2 := Lib.hid (HB.out.trans (hb2.mono HB.out.size))
  have HO2 : Hid (Rvs w2 (fun b => w.heap.size + 2 ≤ b) (rqC q vD vA).toList (rqD q)) := by
    have := RqT.rv ⟨vD, vA, rfl, hDD, hDl, hAA⟩ hlo
    rw [HS1.out] at this
    exact this
  have HONE : Hid (∀ x : Rq, ∀ v : Value, v.oneCell' = true → (rqC x v vA).all (·.oneCell') = true) := fun x v hv => rqc_ones hv hAA.one
  have HDO : Hid (vD.oneCell' = true) := (own_tb hDD).one
  clear hb2 hDD hDl hAA hlo hlo2 HX HZ HB HS1
  obtain ⟨w3, hw3⟩ : ∃ w3, w2.setRow w.heap.size (rqC q vD vA) = w3 := ⟨_, rfl⟩
  have HX3 : Hid (w3.heap[w.heap.size]? = some (.cells (rqC q vD vA) 29 (0, 0))) := by rw [← hw3]; exact setRow_heap _ _ _ _ _ _ HX2.out
  have HZ3 : Hid (w3.heap[w.heap.size + 1]? = some (.cells Zrq 29 (0, 0))) := by rw [← hw3]; exact (setRow_other _ _ _ _ (by omega)).trans HZ2.out
  have HB3 : Hid (Below w.heap.size w w3) := by rw [← hw3]; exact below_setRow HB2.out (Nat.le_refl _) _
  have HR3 : Hid (Rvs w3 (fun b => w.heap.size + 2 ≤ b) (rqC q vD vA).toList (rqD q)) := by rw [← hw3]; exact HO2.out.setRow (by omega) _
  have HW3 := Lib.hid hw3
  clear hw3
  obtain ⟨A, c, rfl, -, h92, h93, h94⟩ := rv_bytes.1 (rq_data HR3.out)
  rw [HDD.out] at HX3 HR3 HW3 h93 HDO HO2 ⊢
  have hc63 : c ≤ 9223372036854775807 := by unfold maxLen at h94; omega
  have hkd : k ≤ d := by have := HK.out; omega
  go_upto_region 2 with (refine wpList_store_row rfl 29 _ _ rfl w.heap.size (rqC q (.slice A d c) vA) rfl rfl 29 (rqC q vD0 vA0) HX2.out (by kernel_rfl) rfl (HONE.out q _ rfl) ?_; rw [HW3.out])
  clear HW3 HX2 HZ2 HB2 HO2 h92 h94
  have c1 : w3.cell? ⟨w.heap.size, 1, none⟩ = some (.slice A d c) := by rw [cell_of_row _ _ _ _ _ _ HX3.out]; rfl
  go_frame
  go_cut [1] (fun t1 wx => t1 = .int .i64 (k : Int) ∧ w3 = wx)
  case first =>
    have hk2 := HK.out
    rcases Int.lt_trichotomy z 0 with h1 | h1 | h1
    all_goals
      rcases Int.lt_trichotomy (max z 0) d with h2 | h2 | h2
      all_goals
        first
        | (exfalso; omega)
        | (have h3 : 0 < (d : Int) ∨ (d : Int) = 0 := by omega
           have h5 : z < (d : Int) ∨ z = d ∨ (d : Int) < z := by omega
           rcases h3 with h3 | h3
           all_goals
             rcases h5 with h5 | h5 | h5
             all_goals
               first
               | (exfalso; omega)
               | (go_wp2
                  go_meet
                  case rel => exact ⟨by congr 1; omega, rfl⟩))
  case rest =>
  obtain ⟨rfl, rfl⟩ := hcut
  go_wp2_with fail
  refine (bclone_any (.slice A k c) (q.data.take k) (fun b => w.heap.size + 2 ≤ b) w3 (take_bytes (rq_data HR3.out) HDD.out hkd) (by rw [List.length_take, HDD.out]; omega)).mono ?_
  rintro en w4 ⟨v4, rfl, ho4, hb4⟩
  have HV4 := Lib.hid ((own_tb ho4).rv.wide fun b hb => Nat.le_trans HB3.out.size hb)
  have HX4 := Lib.hid (old_below HX3.out hb4 (row_lt HX3.out))
  have HZ4 := Lib.hid (old_below HZ3.out hb4 (row_lt HZ3.out))
  have HB4 := Lib.hid (HB3.out.trans (hb4.mono HB3.out.size))
  have HR4 := Lib.hid (rvs_below HR3.out hb4)
  have HVN : Hid (∀ b, v4.ownBlock = some b → w.heap.size + 2 ≤ b) := fun b hb => by have := (ho4.lt b hb).1; have := row_lt HZ3.out; omega
  have HV4b : Hid (Rv w4 (fun b => w.heap.size + 2 ≤ b) v4 (bytesD (q.data.take k))) := (own_tb ho4).rv.wide fun b hb => by have := row_lt HZ3.out; show _ ≤ _; omega
  clear ho4 hb4 HX3 HZ3 HB3 HR3 c1 HV4
  have HPB := part_bytes (rq_data HR4.out) HDD.out hkd (Nat.le_refl d)
  have hpd : pieceX q.data k d = q.data.drop k := by
    unfold pieceX
    rw [List.take_of_length_le (by rw [List.length_drop, HDD.out]; omega)]
  rw [hpd] at HPB
  obtain ⟨At, hAt⟩ : ∃ At : Option Addr, (if c = k then A else A.map (·.add (k * 1))) = At := ⟨_, rfl⟩
  obtain ⟨nt, hnt⟩ : ∃ nt, d - k = nt := ⟨_, rfl⟩
  obtain ⟨ct, hct⟩ : ∃ ct, c - k = ct := ⟨_, rfl⟩
  rw [hAt, hnt, hct] at HPB
  have HPT := Lib.hid HPB
  have HSLC : Hid (∀ W : World, (Instr.slice 26 (.slice A d c) (some (.int .i64 (k : Int))) none none).run Try.prog W = .ok (.slice At nt ct) W) := fun W => by
    rw [← hAt, ← hnt, ← hct]
    exact run_slice_l (P := Try.prog) 26 5 1 Try.underlying26 (by kernel_rfl) A d c k hkd W
  have HAH := Lib.hid (rq_ahead HR4.out)
  clear HPB hAt hnt hct hpd
  have c1 : w4.cell? ⟨w.heap.size, 1, none⟩ = some (.slice A d c) := by rw [cell_of_row _ _ _ _ _ _ HX4.out]; rfl
  go_upto_region 5 with (first | (refine wpList_slice_eq2 rfl 26 _ _ rfl Try.underlying26 A d c rfl (.int .i64 (k : Int)) rfl HSLC.out ?_) | (refine wpList_store_fld rfl 26 _ _ rfl (w.heap.size) 1 rfl (.slice At nt ct) rfl 29 (rqC q (.slice A d c) vA) HX4.out (by show 1 < 6; omega) (by kernel_rfl) (rfl) (rqC q (.slice At nt ct) vA) rfl ?_; obtain ⟨w5, hw5⟩ : ∃ x, w4.setRow (w.heap.size) (rqC q (.slice At nt ct) vA) = x := ⟨_, rfl⟩; have HXw5 : Hid (w5.heap[w.heap.size]? = some (.cells (rqC q (.slice At nt ct) vA) 29 (0, 0))) := (by rw [← hw5]; exact setRow_heap _ _ _ _ _ _ HX4.out); have HZ4w5 : Hid (w5.heap[w.heap.size + 1]? = some (.cells (Zrq) 29 (0, 0))) := (by rw [← hw5]; exact (setRow_other _ _ _ _ (by omega)).trans HZ4.out); have HPT5 : Hid (Rv w5 (fun b => w.heap.size + 2 ≤ b) (.slice At nt ct) (bytesD (q.data.drop k))) := (by rw [← hw5]; exact HPT.out.setRow (by omega) _); have HAH5 : Hid (Rv w5 (fun b => w.heap.size + 2 ≤ b) vA (rowsD 2 pcD q.ahead)) := (by rw [← hw5]; exact HAH.out.setRow (by omega) _); have HV5 : Hid (Rv w5 (fun b => w.heap.size + 2 ≤ b) v4 (bytesD (q.data.take k))) := (by rw [← hw5]; exact HV4b.out.setRow (by omega) _); have HBw5 : Hid (Below w.heap.size w w5) := (by rw [← hw5]; exact below_setRow HB4.out (Nat.le_refl _) _); have HKw5 : Hid (Keeps w4 w5) := (by rw [← hw5]; exact Keeps.other HX4.out (by decide) fun j hj => setRow_other _ _ _ _ hj); have HSZw5 : Hid (w4.heap.size ≤ w5.heap.size) := (by show w4.heap.size ≤ w5.heap.size; rw [← hw5]; simp [World.setRow]); have HWw5 := Lib.hid hw5; clear hw5; rw [HWw5.out]; clear HWw5) | go_in)
  go_wp2_with (first | (refine wpList_load_row rfl 29 _ rfl (w.heap.size) rfl 29 (rqC q (.slice At nt ct) vA) (0, 0) _ HXw5.out Try.underlying29 rfl (by kernel_rfl) ?_) | (refine wpList_store_row rfl 29 _ _ rfl (w.heap.size + 1) (rqC q (.slice At nt ct) vA) rfl rfl 29 (Zrq) HZ4w5.out (by kernel_rfl) rfl ((HONE.out q _ rfl)) ?_))
  (try simp only [Exit.inBlock, Exit.then])
  refine ret_two (g := w.heap.size + 1) rfl rfl (setRow_heap _ _ _ _ _ _ HZ4w5.out) Try.underlying29 rfl (by kernel_rfl) rfl ?_
  refine ⟨_, v4, rfl, ?_, (HV5.out.setRow (by omega) _).wide fun b hb => by omega, below_setRow HBw5.out (by omega) _⟩
  exact rq_make (q := { q with data := q.data.drop k }) ((HPT5.out.setRow (by omega) _).wide fun b hb => by omega) ((HAH5.out.setRow (by omega) _).wide fun b hb => by omega)
end Go.Proofs.Ytdgfhcojmfgimaa
