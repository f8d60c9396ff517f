/-
  The document's calls of a ring: Len, Post, Take, Finish, Reap, Quiet. Every right ring. No condition beyond that.
-/
import Derived.Test.YtdbiledmokldjaaRfm
import Derived.Deep.RegionWith
namespace Go.Proofs.Ytdbiledmokldjaa
open Go.RowKit

theorem SR.gro {w w' : World} {A : Option Addr} {c N : Nat} {ps : List Fr} {C : Array Value} {t : TypeId} {fr : Nat × Nat} (h : SR w A c ps) (hg : Gro (· = N) w w') (hN : w.heap[N]? = some (.cells C t fr)) (hne : t ≠ 9) : SR w' A c ps :=
  ⟨h.rd.keep fun k D _ hD => hg.block k (row_lt hD) fun e => by
    subst e
    rw [hN] at hD
    injection hD with hD
    injection hD with _ h2
    exact hne h2, h.nil, h.cap⟩
theorem add_one (ad : Addr) : ad.add 1 = ⟨ad.block, ad.off + 1, none⟩ := by
  unfold Addr.add
  simp
theorem reflen_num (n k l1 c1 l2 c2 l3 c3 : Nat) (A1 A2 A3 : Option Addr) (w : World) (h1 : l1 ≤ 1000) (h2 : l2 ≤ 1000) (h3 : l3 ≤ 1000) :
    Calls Try.prog 13 #[.agg #[.int .i64 (n : Int), .slice A1 l1 c1, .slice A2 l2 c2, .slice A3 l3 c3, .int .i64 (k : Int)]] w fun e w' => e = .returned (.int .i64 ((l1 : Int) + (l2 : Int) + (l3 : Int))) ∧ Below w.heap.size w w' := by
  go_enter Try.func13, Try.ntmps13
  go_wp2
  go_ret
  exact ⟨rfl, (Below.refl _ _).alloc (Nat.le_refl _) _⟩
theorem rf_len {x : Rn} {v : Value} {w : World} (hf : Rf x w v) (hx : x.Ok) (w1 : World) : Calls Try.prog 13 #[v] w1 fun e w' => e = .returned (.int .i64 (x.len : Int)) ∧ Below w1.heap.size w1 w' := by
  obtain ⟨A1, A2, A3, c1, c2, c3, rfl, -⟩ := hf
  have hle := hx.le
  have hp := hx.may.pos
  have e : (x.len : Int) = (x.P.length : Int) + (x.T.length : Int) + (x.D.length : Int) := by simp only [Rn.len]; omega
  simp only [Rn.len] at hle
  rw [e]
  exact reflen_num x.n x.p x.P.length c1 x.T.length c2 x.D.length c3 A1 A2 A3 w1 (by omega) (by omega) (by omega)

set_option maxRecDepth 100000 in
set_option maxHeartbeats 2000000 in
theorem rf_post {x : Rn} {v : Value} (f : Fr) (w : World) (hf : Rf x w v) (hx : x.Ok) (hfl : f.length ≤ 100000) :
    Calls Try.prog 21 #[v, txt f] w fun e w' => ∃ v', e = .returned (.tuple #[v', .int .i64 ((postX x f).2 : Int)]) ∧ Rf (postX x f).1 w' v' ∧ Below w.heap.size w w' := by
  obtain ⟨n, r, D, T, P⟩ := x
  obtain ⟨A1, A2, A3, c1, c2, c3, rfl, s1, s2, s3⟩ := hf
  obtain ⟨k, hk⟩ : ∃ k, Rn.p ⟨n, r, D, T, P⟩ = k := ⟨_, rfl⟩
  have hk2 : k < 65536 := by rw [← hk]; exact Rn.p_lt _
  have hle := hx.le
  have hp2 := hx.may.pos
  simp only [Rn.len] at hle hp2
  obtain ⟨l1, hl1⟩ : ∃ l, P.length = l := ⟨_, rfl⟩
  obtain ⟨l2, hl2⟩ : ∃ l, T.length = l := ⟨_, rfl⟩
  obtain ⟨l3, hl3⟩ : ∃ l, D.length = l := ⟨_, rfl⟩
  simp only [rfC, hk, hl1, hl2, hl3]
  have HK := Lib.hid hk
  have HL1 := Lib.hid hl1
  have HL2 := Lib.hid hl2
  have HL3 := Lib.hid hl3
  have HXO := Lib.hid hx
  rw [hl1, hl2, hl3] at hle
  obtain ⟨N, hN⟩ : ∃ N, w.heap.size = N := ⟨_, rfl⟩
  obtain ⟨w1, hw1⟩ : ∃ w1, (w.alloc (.cells #[.int .i64 (n : Int), .slice A1 l1 c1, .slice A2 l2 c2, .slice A3 l3 c3, .int .i64 (k : Int)] 32)).alloc (.cells #[.int .i64 0, .slice none 0 0, .slice none 0 0, .slice none 0 0, .int .i64 0] 32) = w1 := ⟨_, rfl⟩
  have HBN : Hid (Below N w w1) := by rw [← hw1]; exact ((Below.refl _ _).alloc (by omega) _).alloc (by simp; omega) _
  have RX : Hid (w1.heap[N]? = some (.cells #[.int .i64 (n : Int), .slice A1 l1 c1, .slice A2 l2 c2, .slice A3 l3 c3, .int .i64 (k : Int)] 32 (0, 0))) := by rw [← hw1, ← hN]; exact old_alloc (heap_alloc_new w _) _
  have RY : Hid (w1.heap[N + 1]? = some (.cells #[.int .i64 0, .slice none 0 0, .slice none 0 0, .slice none 0 0, .int .i64 0] 32 (0, 0))) := by rw [← hw1, ← hN]; exact new_at1 w _ _
  have S1 := Lib.hid (s1.below HBN.out (by omega))
  have S2 := Lib.hid (s2.below HBN.out (by omega))
  have S3 := Lib.hid (s3.below HBN.out (by omega))
  rw [hN]
  clear s1 s2 s3 hk hl1 hl2 hl3 hx
  obtain ⟨d0, d1, d2, d3, d4⟩ := five_cells RX.out
  go_enter Try.func21, Try.ntmps21
  by_cases q0 : 214 < f.length
  · have HV : Hid (postX ⟨n, r, D, T, P⟩ f = (⟨n, r, D, T, P⟩, 4)) := by show _ = _; unfold postX; rw [if_pos q0]
    have hq0 : (214 : Int) < (f.length : Int) := by omega
    go_upto_region 2 with (fail)
    clear d0 d1 d2 d3 d4
    have RYE := Lib.hid (setRow_heap w1 (N + 1) _ (#[.int .i64 (n : Int), .slice A1 l1 c1, .slice A2 l2 c2, .slice A3 l3 c3, .int .i64 (k : Int)] : Array Value) _ _ RY.out)
    have HBE := Lib.hid (below_setRow HBN.out (by omega : N ≤ N + 1) (#[.int .i64 (n : Int), .slice A1 l1 c1, .slice A2 l2 c2, .slice A3 l3 c3, .int .i64 (k : Int)] : Array Value))
    have S1E := Lib.hid (S1.out.other RY.out (by decide) (setRow_cells w1 _ (#[.int .i64 (n : Int), .slice A1 l1 c1, .slice A2 l2 c2, .slice A3 l3 c3, .int .i64 (k : Int)] : Array Value)))
    have S2E := Lib.hid (S2.out.other RY.out (by decide) (setRow_cells w1 _ (#[.int .i64 (n : Int), .slice A1 l1 c1, .slice A2 l2 c2, .slice A3 l3 c3, .int .i64 (k : Int)] : Array Value)))
    have S3E := Lib.hid (S3.out.other RY.out (by decide) (setRow_cells w1 _ (#[.int .i64 (n : Int), .slice A1 l1 c1, .slice A2 l2 c2, .slice A3 l3 c3, .int .i64 (k : Int)] : Array Value)))
    obtain ⟨d0, d1, d2, d3, d4⟩ := five_cells RX.out
    go_wp2_with (first | refine wpList_load_row rfl 32 _ rfl N rfl 32 #[.int .i64 (n : Int), .slice A1 l1 c1, .slice A2 l2 c2, .slice A3 l3 c3, .int .i64 (k : Int)] (0, 0) _ RX.out Try.underlying32 rfl (by kernel_rfl) ?_ | refine wpList_store_row rfl 32 _ _ rfl (N + 1) #[.int .i64 (n : Int), .slice A1 l1 c1, .slice A2 l2 c2, .slice A3 l3 c3, .int .i64 (k : Int)] rfl rfl 32 _ RY.out (by kernel_rfl) rfl (rfC_ones _ _ _ _ _ _ _ _ _ _ _) ?_)
    refine ret_two (g := N + 1) rfl rfl RYE.out Try.underlying32 rfl (by kernel_rfl) rfl ?_
    rw [HV.out]
    exact ⟨_, rfl, ⟨_, _, _, _, _, _, by simp only [rfC, HK.out, HL1.out, HL2.out, HL3.out], S1E.out, S2E.out, S3E.out⟩, HBE.out⟩
  · have hq0 : ¬ (214 : Int) < (f.length : Int) := by omega
    have q00 : ¬ 214 < f.length := q0
    go_upto_region 3 with (fail)
    clear hw1 d0 d1 d2 d3 d4
    obtain ⟨d0, d1, d2, d3, d4⟩ := five_cells RX.out
    have k0 := cell_regrown d0
    have k1 := cell_regrown d1
    have k2 := cell_regrown d2
    have k3 := cell_regrown d3
    have k4 := cell_regrown d4
    clear d0 d1 d2 d3 d4
    have HLN := Lib.hid (fun w => reflen_num n k l1 c1 l2 c2 l3 c3 A1 A2 A3 w (by omega) (by omega) (by omega))
    by_cases q : l3 + l2 + l1 = n
    · have HV : Hid (postX ⟨n, r, D, T, P⟩ f = (⟨n, r, D, T, P⟩, 5)) := by show _ = _; unfold postX; rw [if_neg q00, if_pos (by simp only [Rn.len, HL1.out, HL2.out, HL3.out]; exact q)]
      have hqb : (n : Int) ≤ (l1 : Int) + (l2 : Int) + (l3 : Int) := by omega
      have hqd : decide ((n : Int) ≤ (l1 : Int) + (l2 : Int) + (l3 : Int)) = true := decide_eq_true hqb
      clear q00 q0 hq0
      refine wp_region_quiet_below (by kernel_rfl) (by kernel_rfl) ?_
      repeat (quiet_step (first | (go_at_call 13; exact Calls.regrown_of (HLN.out _))))
      refine wpQuiet_nil ?_
      intro w4 hw'
      obtain ⟨⟨dq, osq⟩, rfl⟩ := hw'
      have hb4 := below_regrown w1 dq osq
      clear k0 k1 k2 k3 k4
      generalize «Sort».grow (redrawn w1 dq) osq = w4 at hb4 ⊢
      have RX := Lib.hid (old_below RX.out hb4 (row_lt RX.out))
      have RY := Lib.hid (old_below RY.out hb4 (row_lt RY.out))
      have S1 := Lib.hid (S1.out.below hb4 (Nat.le_refl _))
      have S2 := Lib.hid (S2.out.below hb4 (Nat.le_refl _))
      have S3 := Lib.hid (S3.out.below hb4 (Nat.le_refl _))
      have HBN := Lib.hid (HBN.out.trans (hb4.mono (by have := HBN.out.size; omega)))

      obtain ⟨d0, d1, d2, d3, d4⟩ := five_cells RX.out
      go_upto_region 4 with (fail)
      clear d0 d1 d2 d3 d4
      have RYE := Lib.hid (setRow_heap w4 (N + 1) _ (#[.int .i64 (n : Int), .slice A1 l1 c1, .slice A2 l2 c2, .slice A3 l3 c3, .int .i64 (k : Int)] : Array Value) _ _ RY.out)
      have HBE := Lib.hid (below_setRow HBN.out (by omega : N ≤ N + 1) (#[.int .i64 (n : Int), .slice A1 l1 c1, .slice A2 l2 c2, .slice A3 l3 c3, .int .i64 (k : Int)] : Array Value))
      have S1E := Lib.hid (S1.out.other RY.out (by decide) (setRow_cells w4 _ (#[.int .i64 (n : Int), .slice A1 l1 c1, .slice A2 l2 c2, .slice A3 l3 c3, .int .i64 (k : Int)] : Array Value)))
      have S2E := Lib.hid (S2.out.other RY.out (by decide) (setRow_cells w4 _ (#[.int .i64 (n : Int), .slice A1 l1 c1, .slice A2 l2 c2, .slice A3 l3 c3, .int .i64 (k : Int)] : Array Value)))
      have S3E := Lib.hid (S3.out.other RY.out (by decide) (setRow_cells w4 _ (#[.int .i64 (n : Int), .slice A1 l1 c1, .slice A2 l2 c2, .slice A3 l3 c3, .int .i64 (k : Int)] : Array Value)))
      obtain ⟨d0, d1, d2, d3, d4⟩ := five_cells RX.out
      go_wp2_with (first | refine wpList_load_row rfl 32 _ rfl N rfl 32 #[.int .i64 (n : Int), .slice A1 l1 c1, .slice A2 l2 c2, .slice A3 l3 c3, .int .i64 (k : Int)] (0, 0) _ RX.out Try.underlying32 rfl (by kernel_rfl) ?_ | refine wpList_store_row rfl 32 _ _ rfl (N + 1) #[.int .i64 (n : Int), .slice A1 l1 c1, .slice A2 l2 c2, .slice A3 l3 c3, .int .i64 (k : Int)] rfl rfl 32 _ RY.out (by kernel_rfl) rfl (rfC_ones _ _ _ _ _ _ _ _ _ _ _) ?_)
      refine ret_two (g := N + 1) rfl rfl RYE.out Try.underlying32 rfl (by kernel_rfl) rfl ?_
      rw [HV.out]
      exact ⟨_, rfl, ⟨_, _, _, _, _, _, by simp only [rfC, HK.out, HL1.out, HL2.out, HL3.out], S1E.out, S2E.out, S3E.out⟩, HBE.out⟩
    · have HV : Hid (postX ⟨n, r, D, T, P⟩ f = (Rn.post ⟨n, r, D, T, P⟩ f, 0)) := by show _ = _; unfold postX; rw [if_neg q00, if_neg (by simp only [Rn.len, HL1.out, HL2.out, HL3.out]; exact q)]
      have hqb : ¬ (n : Int) ≤ (l1 : Int) + (l2 : Int) + (l3 : Int) := by omega
      have hqd : decide ((n : Int) ≤ (l1 : Int) + (l2 : Int) + (l3 : Int)) = false := decide_eq_false hqb
      clear q00 q0 hq0
      refine wp_region_quiet_below (by kernel_rfl) (by kernel_rfl) ?_
      repeat (quiet_step (first | (go_at_call 13; exact Calls.regrown_of (HLN.out _))))
      refine wpQuiet_nil ?_
      intro w4 hw'
      obtain ⟨⟨dq, osq⟩, rfl⟩ := hw'
      have hb4 := below_regrown w1 dq osq
      clear k0 k1 k2 k3 k4
      generalize «Sort».grow (redrawn w1 dq) osq = w4 at hb4 ⊢
      have RX := Lib.hid (old_below RX.out hb4 (row_lt RX.out))
      have RY := Lib.hid (old_below RY.out hb4 (row_lt RY.out))
      have S1 := Lib.hid (S1.out.below hb4 (Nat.le_refl _))
      have S2 := Lib.hid (S2.out.below hb4 (Nat.le_refl _))
      have S3 := Lib.hid (S3.out.below hb4 (Nat.le_refl _))
      have HBN := Lib.hid (HBN.out.trans (hb4.mono (by have := HBN.out.size; omega)))

      have HMO := Lib.hid (more_any A1 c1 l1 P f w4 S1.out HL1.out (by omega))
      obtain ⟨d0, d1, d2, d3, d4⟩ := five_cells RX.out
      go_upto_region 5 with (fail)
      go_wp2_with fail
      clear d0 d1 d2 d3 d4
      refine HMO.out.mono ?_
      rintro e w5 ⟨A', c', rfl, s', hb5⟩
      have SN := Lib.hid s'
      clear s'
      have RX := Lib.hid (old_below RX.out hb5 (row_lt RX.out))
      have RY := Lib.hid (old_below RY.out hb5 (row_lt RY.out))
      have S1 := Lib.hid (S1.out.below hb5 (Nat.le_refl _))
      have S2 := Lib.hid (S2.out.below hb5 (Nat.le_refl _))
      have S3 := Lib.hid (S3.out.below hb5 (Nat.le_refl _))
      have HBN := Lib.hid (HBN.out.trans (hb5.mono (by have := HBN.out.size; omega)))

      clear hb5 hb4 HMO HLN
      obtain ⟨k', hk'⟩ : ∃ k', (k + 1) % 65536 = k' := ⟨_, rfl⟩
      have hwk : ((k : Int) + 1) % 65536 = (k' : Int) := by omega
      have HK1 : Hid (Rn.p ⟨n, r, D, T, P ++ [f]⟩ = k') := by
        have h0 := HK.out
        show _ = _
        simp only [Rn.p, Rn.len, Rn.post, List.length_append, List.length_singleton] at h0 ⊢
        omega
      clear hk'
      obtain ⟨d0, d1, d2, d3, d4⟩ := five_cells RX.out
      have f1 := frozen_of_row w5 N 1 _ _ RX.out
      have f4 := frozen_of_row w5 N 4 _ _ RX.out
      go_upto_region 6 with (fail)
      have RX5 : Hid ((w5.setCell ⟨N, 1, none⟩ (.slice A' (l1 + 1) c')).heap[N]? = some (.cells #[.int .i64 (n : Int), .slice A' (l1 + 1) c', .slice A2 l2 c2, .slice A3 l3 c3, .int .i64 (k : Int)] 32 (0, 0))) := heap_setCell_same w5 N 1 _ _ _ RX.out
      have RX6 : Hid (((w5.setCell ⟨N, 1, none⟩ (.slice A' (l1 + 1) c')).setCell ⟨N, 4, none⟩ (.int .i64 (k' : Int))).heap[N]? = some (.cells #[.int .i64 (n : Int), .slice A' (l1 + 1) c', .slice A2 l2 c2, .slice A3 l3 c3, .int .i64 (k' : Int)] 32 (0, 0))) := heap_setCell_same _ N 4 _ _ _ RX5.out
      have RY6 : Hid (((w5.setCell ⟨N, 1, none⟩ (.slice A' (l1 + 1) c')).setCell ⟨N, 4, none⟩ (.int .i64 (k' : Int))).heap[N + 1]? = some (.cells #[.int .i64 0, .slice none 0 0, .slice none 0 0, .slice none 0 0, .int .i64 0] 32 (0, 0))) := (heap_setCell_other _ _ _ _ (by show N + 1 ≠ N; omega)).trans ((heap_setCell_other _ _ _ _ (by show N + 1 ≠ N; omega)).trans RY.out)
      have hsc : ∀ j, j ≠ N → ((w5.setCell ⟨N, 1, none⟩ (.slice A' (l1 + 1) c')).setCell ⟨N, 4, none⟩ (.int .i64 (k' : Int))).heap[j]? = w5.heap[j]? := fun j hj => (heap_setCell_other _ _ _ _ hj).trans (heap_setCell_other _ _ _ _ hj)
      have S1 := Lib.hid (SN.out.other RX.out (by decide) hsc)
      have S2 := Lib.hid (S2.out.other RX.out (by decide) hsc)
      have S3 := Lib.hid (S3.out.other RX.out (by decide) hsc)
      have HBN := Lib.hid ((HBN.out.setCell (p := ⟨N, 1, none⟩) (Nat.le_refl _) (.slice A' (l1 + 1) c')).setCell (p := ⟨N, 4, none⟩) (Nat.le_refl _) (.int .i64 (k' : Int)))
      go_upto_region 7 with (fail)
      clear d0 d1 d2 d3 d4 f1 f4 RX RY hsc SN
      generalize (w5.setCell ⟨N, 1, none⟩ (.slice A' (l1 + 1) c')).setCell ⟨N, 4, none⟩ (.int .i64 (k' : Int)) = w6 at RX6 RY6 S1 S2 S3 HBN ⊢
      have RX := RX6
      have RY := RY6
      clear RX5 RX6 RY6
      have RYE := Lib.hid (setRow_heap w6 (N + 1) _ (#[.int .i64 (n : Int), .slice A' (l1 + 1) c', .slice A2 l2 c2, .slice A3 l3 c3, .int .i64 (k' : Int)] : Array Value) _ _ RY.out)
      have HBE := Lib.hid (below_setRow HBN.out (by omega : N ≤ N + 1) (#[.int .i64 (n : Int), .slice A' (l1 + 1) c', .slice A2 l2 c2, .slice A3 l3 c3, .int .i64 (k' : Int)] : Array Value))
      have S1E := Lib.hid (S1.out.other RY.out (by decide) (setRow_cells w6 _ (#[.int .i64 (n : Int), .slice A' (l1 + 1) c', .slice A2 l2 c2, .slice A3 l3 c3, .int .i64 (k' : Int)] : Array Value)))
      have S2E := Lib.hid (S2.out.other RY.out (by decide) (setRow_cells w6 _ (#[.int .i64 (n : Int), .slice A' (l1 + 1) c', .slice A2 l2 c2, .slice A3 l3 c3, .int .i64 (k' : Int)] : Array Value)))
      have S3E := Lib.hid (S3.out.other RY.out (by decide) (setRow_cells w6 _ (#[.int .i64 (n : Int), .slice A' (l1 + 1) c', .slice A2 l2 c2, .slice A3 l3 c3, .int .i64 (k' : Int)] : Array Value)))
      obtain ⟨d0, d1, d2, d3, d4⟩ := five_cells RX.out
      go_wp2_with (first | refine wpList_load_row rfl 32 _ rfl N rfl 32 #[.int .i64 (n : Int), .slice A' (l1 + 1) c', .slice A2 l2 c2, .slice A3 l3 c3, .int .i64 (k' : Int)] (0, 0) _ RX.out Try.underlying32 rfl (by kernel_rfl) ?_ | refine wpList_store_row rfl 32 _ _ rfl (N + 1) #[.int .i64 (n : Int), .slice A' (l1 + 1) c', .slice A2 l2 c2, .slice A3 l3 c3, .int .i64 (k' : Int)] rfl rfl 32 _ RY.out (by kernel_rfl) rfl (rfC_ones _ _ _ _ _ _ _ _ _ _ _) ?_)
      refine ret_two (g := N + 1) rfl rfl RYE.out Try.underlying32 rfl (by kernel_rfl) rfl ?_
      rw [HV.out]
      exact ⟨_, rfl, ⟨_, _, _, _, _, _, by simp only [rfC, Rn.post, HK1.out, List.length_append, List.length_singleton, HL1.out, HL2.out, HL3.out], S1E.out, S2E.out, S3E.out⟩, HBE.out⟩

set_option maxRecDepth 100000 in
set_option maxHeartbeats 4000000 in
theorem rf_take {x : Rn} {v : Value} (w : World) (hf : Rf x w v) (hx : x.Ok) :
    Calls Try.prog 22 #[v] w fun e w' => ∃ v', e = .returned (.tuple #[v', txt (takeX x).2.1, .int .i64 ((takeX x).2.2 : Int)]) ∧ Rf (takeX x).1 w' v' ∧ Below w.heap.size w w' := by
  obtain ⟨n, r, D, T, P⟩ := x
  obtain ⟨A1, A2, A3, c1, c2, c3, rfl, s1, s2, s3⟩ := hf
  obtain ⟨k, hk⟩ : ∃ k, Rn.p ⟨n, r, D, T, P⟩ = k := ⟨_, rfl⟩
  have hk2 : k < 65536 := by rw [← hk]; exact Rn.p_lt _
  have hle := hx.le
  have hp2 := hx.may.pos
  simp only [Rn.len] at hle hp2
  obtain ⟨l1, hl1⟩ : ∃ l, P.length = l := ⟨_, rfl⟩
  obtain ⟨l2, hl2⟩ : ∃ l, T.length = l := ⟨_, rfl⟩
  obtain ⟨l3, hl3⟩ : ∃ l, D.length = l := ⟨_, rfl⟩
  simp only [rfC, hk, hl1, hl2, hl3]
  have HK := Lib.hid hk
  have HL1 := Lib.hid hl1
  have HL2 := Lib.hid hl2
  have HL3 := Lib.hid hl3
  have HXO := Lib.hid hx
  rw [hl1, hl2, hl3] at hle
  obtain ⟨N, hN⟩ : ∃ N, w.heap.size = N := ⟨_, rfl⟩
  obtain ⟨w1, hw1⟩ : ∃ w1, (w.alloc (.cells #[.int .i64 (n : Int), .slice A1 l1 c1, .slice A2 l2 c2, .slice A3 l3 c3, .int .i64 (k : Int)] 32)).alloc (.cells #[.int .i64 0, .slice none 0 0, .slice none 0 0, .slice none 0 0, .int .i64 0] 32) = w1 := ⟨_, rfl⟩
  have HBN : Hid (Below N w w1) := by rw [← hw1]; exact ((Below.refl _ _).alloc (by omega) _).alloc (by simp; omega) _
  have RX : Hid (w1.heap[N]? = some (.cells #[.int .i64 (n : Int), .slice A1 l1 c1, .slice A2 l2 c2, .slice A3 l3 c3, .int .i64 (k : Int)] 32 (0, 0))) := by rw [← hw1, ← hN]; exact old_alloc (heap_alloc_new w _) _
  have RY : Hid (w1.heap[N + 1]? = some (.cells #[.int .i64 0, .slice none 0 0, .slice none 0 0, .slice none 0 0, .int .i64 0] 32 (0, 0))) := by rw [← hw1, ← hN]; exact new_at1 w _ _
  have S1 := Lib.hid (s1.below HBN.out (by omega))
  have S2 := Lib.hid (s2.below HBN.out (by omega))
  have S3 := Lib.hid (s3.below HBN.out (by omega))
  rw [hN]
  clear s1 s2 s3 hk hl1 hl2 hl3 hx
  obtain ⟨d0, d1, d2, d3, d4⟩ := five_cells RX.out
  go_enter Try.func22, Try.ntmps22
  rcases P with _ | ⟨f, P⟩
  · have HV : Hid (takeX ⟨n, r, D, T, []⟩ = (⟨n, r, D, T, []⟩, [], 2)) := rfl
    obtain rfl : 0 = l1 := HL1.out
    go_upto_region 2 with (fail)
    clear d0 d1 d2 d3 d4
    have RYE := Lib.hid (setRow_heap w1 (N + 1) _ (#[.int .i64 (n : Int), .slice A1 0 c1, .slice A2 l2 c2, .slice A3 l3 c3, .int .i64 (k : Int)] : Array Value) _ _ RY.out)
    have HBE := Lib.hid (below_setRow HBN.out (by omega : N ≤ N + 1) (#[.int .i64 (n : Int), .slice A1 0 c1, .slice A2 l2 c2, .slice A3 l3 c3, .int .i64 (k : Int)] : Array Value))
    have S1E := Lib.hid (S1.out.other RY.out (by decide) (setRow_cells w1 _ (#[.int .i64 (n : Int), .slice A1 0 c1, .slice A2 l2 c2, .slice A3 l3 c3, .int .i64 (k : Int)] : Array Value)))
    have S2E := Lib.hid (S2.out.other RY.out (by decide) (setRow_cells w1 _ (#[.int .i64 (n : Int), .slice A1 0 c1, .slice A2 l2 c2, .slice A3 l3 c3, .int .i64 (k : Int)] : Array Value)))
    have S3E := Lib.hid (S3.out.other RY.out (by decide) (setRow_cells w1 _ (#[.int .i64 (n : Int), .slice A1 0 c1, .slice A2 l2 c2, .slice A3 l3 c3, .int .i64 (k : Int)] : Array Value)))
    obtain ⟨d0, d1, d2, d3, d4⟩ := five_cells RX.out
    go_wp2_with (first | refine wpList_load_row rfl 32 _ rfl N rfl 32 #[.int .i64 (n : Int), .slice A1 0 c1, .slice A2 l2 c2, .slice A3 l3 c3, .int .i64 (k : Int)] (0, 0) _ RX.out Try.underlying32 rfl (by kernel_rfl) ?_ | refine wpList_store_row rfl 32 _ _ rfl (N + 1) #[.int .i64 (n : Int), .slice A1 0 c1, .slice A2 l2 c2, .slice A3 l3 c3, .int .i64 (k : Int)] rfl rfl 32 _ RY.out (by kernel_rfl) rfl (rfC_ones _ _ _ _ _ _ _ _ _ _ _) ?_)
    refine ret_three (g := N + 1) rfl rfl RYE.out Try.underlying32 rfl (by kernel_rfl) rfl ?_
    rw [HV.out]
    exact ⟨_, rfl, ⟨_, _, _, _, _, _, by simp only [rfC, HK.out, HL1.out, HL2.out, HL3.out], S1E.out, S2E.out, S3E.out⟩, HBE.out⟩
  · have HV : Hid (takeX ⟨n, r, D, T, f :: P⟩ = (⟨n, r, D, T ++ [f], P⟩, f, 0)) := rfl
    obtain ⟨l0, hl0⟩ : ∃ l, P.length = l := ⟨_, rfl⟩
    obtain rfl : l0 + 1 = l1 := by have := HL1.out; rw [List.length_cons, hl0] at this; exact this
    obtain ⟨ad, rfl, hcell⟩ := S1.out.head
    have HC1 := Lib.hid S1.out.cap
    have HL0 := Lib.hid hl0
    have HK1 : Hid (Rn.p ⟨n, r, D, T ++ [f], P⟩ = k) := by
      have h0 := HK.out
      show _ = _
      simp only [Rn.p, Rn.len, List.length_append, List.length_cons, List.length_nil] at h0 ⊢
      rw [← h0]
      congr 2
      omega
    have HMO := Lib.hid (fun (w' : World) (hg : Gro (· = N) w1 w') => more_any A2 c2 l2 T f w' (S2.out.gro hg RX.out (by decide)) HL2.out (by omega))
    clear hl0
    by_cases hc1 : c1 = 1
    · subst hc1
      have HTL : Hid (SR w1 (some ad) (0) P) := by have := S1.out.tail; show SR _ _ _ _; simpa using this
      have HSL : Hid (∀ w : World, (Instr.slice 30 (.slice (some ad) (l0 + 1) 1) (some (.int .i64 1)) none none).run Try.prog w = .ok (.slice (some ad) l0 (0)) w) := fun w => by
        have := run_slice_l (P := Try.prog) 30 9 1 Try.underlying30 (by kernel_rfl) (some ad) (l0 + 1) 1 1 (by omega) w
        simpa using this
      go_upto_region 4 with (fail)
      clear d0 d1 d2 d3 d4 hcell hw1
      apply wp_region_relyL [8] (fun Ld w' => Gro (· = N) w1 w' ∧ w'.heap[N]? = some (.cells (if Ld 8 then #[.int .i64 (n : Int), .slice (some ad) l0 (0), .slice A2 l2 c2, .slice A3 l3 c3, .int .i64 (k : Int)] else #[.int .i64 (n : Int), .slice (some ad) (l0 + 1) 1, .slice A2 l2 c2, .slice A3 l3 c3, .int .i64 (k : Int)]) 32 (0, 0))) (RL [Is (.pointer (some ⟨N, 1, none⟩)), Is (.slice (some ad) (l0 + 1) 1), Is (.slice (some ad) l0 (0)), Is (.pointer (some ⟨N, 2, none⟩)), Is (.slice A2 l2 c2), Is _, fun v w => ∃ A' c', v = .slice A' (l2 + 1) c' ∧ SR w A' c' (T ++ [f]), Is (.pointer (some ⟨N, 1, none⟩)), Any, Is (.pointer (some ⟨N, 2, none⟩))]) [false, false, false, false, false, false, false, false, false, false, false, false, false, false, false, true, true, true, true, true, true, true, true, true, false, false] _ rfl
      · kernel_rfl
      · kernel_rfl
      · kernel_rfl
      · kernel_rfl
      · refine ⟨?_, ?_, ?_, ?_, ?_, ?_, ?_, ?_, ?_, ?_, trivial⟩
        · intro L ev w' hC hL hx K hK
          have e1 : ev (.tmp 1) = _ := hx.base 1 (by kernel_rfl)
          have HK := Lib.hid hK
          have HC := Lib.hid hC
          have HL := Lib.hid hL
          have HX := Lib.hid hx
          have hc := hx.cst
          skip
          clear hx hK hC hL
          unfold Run
          simp [execOp, Upon, go_sem, *]
          exact HK.out _ _ (.inl ⟨Below.refl _ _, by decide⟩) rfl
        · intro L ev w' hC hL hx K hK
          have e15 := hx.held 0 _ rfl (by kernel_rfl)
          change ev (.tmp 15) = _ at e15
          have HK := Lib.hid hK
          have HC := Lib.hid hC
          have HL := Lib.hid hL
          have HX := Lib.hid hx
          have hc := hx.cst
          skip
          clear hx hK hC hL
          have hL8 : L 8 = false := Bool.eq_false_iff.2 fun h => by have h1 := HX.out.closed 8 _ 1 rfl h (by kernel_rfl); rw [HL.out] at h1; cases h1
          have hCC := HC.out.2
          rw [hL8] at hCC
          obtain ⟨x0, x1, x2, x3, x4⟩ := five_cells hCC
          clear hCC
          unfold Run
          simp [execOp, Upon, go_sem, *]
          exact HK.out _ _ (.inl ⟨Below.refl _ _, by decide⟩) rfl
        · intro L ev w' hC hL hx K hK
          have e16 := hx.held 1 _ rfl (by kernel_rfl)
          change ev (.tmp 16) = _ at e16
          have HK := Lib.hid hK
          have HC := Lib.hid hC
          have HL := Lib.hid hL
          have HX := Lib.hid hx
          have hc := hx.cst
          skip
          clear hx hK hC hL
          have hrun := HSL.out w'
          unfold Run
          rw [run_sliceE 30 _ (some _) none rfl Try.underlying30 e16 (by simp only [Option.map_some, Option.map_none, hc]; exact hrun)]
          exact HK.out _ _ (.inl ⟨Below.refl _ _, by decide⟩) rfl
        · intro L ev w' hC hL hx K hK
          have e1 : ev (.tmp 1) = _ := hx.base 1 (by kernel_rfl)
          have HK := Lib.hid hK
          have HC := Lib.hid hC
          have HL := Lib.hid hL
          have HX := Lib.hid hx
          have hc := hx.cst
          skip
          clear hx hK hC hL
          unfold Run
          simp [execOp, Upon, go_sem, *]
          exact HK.out _ _ (.inl ⟨Below.refl _ _, by decide⟩) rfl
        · intro L ev w' hC hL hx K hK
          have e18 := hx.held 3 _ rfl (by kernel_rfl)
          change ev (.tmp 18) = _ at e18
          have HK := Lib.hid hK
          have HC := Lib.hid hC
          have HL := Lib.hid hL
          have HX := Lib.hid hx
          have hc := hx.cst
          skip
          clear hx hK hC hL
          have hL8 : L 8 = false := Bool.eq_false_iff.2 fun h => by have h1 := HX.out.closed 8 _ 4 rfl h (by kernel_rfl); rw [HL.out] at h1; cases h1
          have hCC := HC.out.2
          rw [hL8] at hCC
          obtain ⟨x0, x1, x2, x3, x4⟩ := five_cells hCC
          clear hCC
          unfold Run
          simp [execOp, Upon, go_sem, *]
          exact HK.out _ _ (.inl ⟨Below.refl _ _, by decide⟩) rfl
        · intro L ev w' hC hL hx K hK
          have e5 : ev (.tmp 5) = _ := hx.base 5 (by kernel_rfl)
          have HK := Lib.hid hK
          have HC := Lib.hid hC
          have HL := Lib.hid hL
          have HX := Lib.hid hx
          have hc := hx.cst
          skip
          clear hx hK hC hL
          unfold Run
          simp [execOp, Upon, go_sem, *]
          exact HK.out _ _ (.inl ⟨Below.refl _ _, by decide⟩) rfl
        · intro L ev w' hC hL hx K hK
          have e19 := hx.held 4 _ rfl (by kernel_rfl)
          have e20 := hx.held 5 _ rfl (by kernel_rfl)
          change ev (.tmp 19) = _ at e19
          change ev (.tmp 20) = _ at e20
          have HK := Lib.hid hK
          have HC := Lib.hid hC
          have HL := Lib.hid hL
          have HX := Lib.hid hx
          have hc := hx.cst
          have hf := hx.fn
          clear hx hK hC hL
          unfold Run
          simp [execOp, Upon, go_sem, *]
          refine (HMO.out w' HC.out.1).mono ?_
          rintro e w9 ⟨A', c', rfl, s', hb9⟩
          exact ⟨_, rfl, HK.out _ _ (.inl ⟨hb9, by decide⟩) ⟨A', c', rfl, s'⟩⟩
        · intro L ev w' hC hL hx K hK
          have e1 : ev (.tmp 1) = _ := hx.base 1 (by kernel_rfl)
          have HK := Lib.hid hK
          have HC := Lib.hid hC
          have HL := Lib.hid hL
          have HX := Lib.hid hx
          have hc := hx.cst
          skip
          clear hx hK hC hL
          unfold Run
          simp [execOp, Upon, go_sem, *]
          exact HK.out _ _ (.inl ⟨Below.refl _ _, by decide⟩) rfl
        · intro L ev w' hC hL hx K hK
          have e17 := hx.held 2 _ rfl (by kernel_rfl)
          have e22 := hx.held 7 _ rfl (by kernel_rfl)
          change ev (.tmp 17) = _ at e17
          change ev (.tmp 22) = _ at e22
          have HK := Lib.hid hK
          have HC := Lib.hid hC
          have HL := Lib.hid hL
          have HX := Lib.hid hx
          have hc := hx.cst
          skip
          clear hx hK hC hL
          have q22 : ev (.tmp 22) = .pointer (some ⟨N, 1, none⟩) := e22
          have q17 : ev (.tmp 17) = .slice (some ad) l0 (0) := e17
          have hCC := HC.out.2
          rw [HL.out] at hCC
          have HC2 : Hid (w'.heap[N]? = some (.cells #[.int .i64 (n : Int), .slice (some ad) (l0 + 1) 1, .slice A2 l2 c2, .slice A3 l3 c3, .int .i64 (k : Int)] 32 (0, 0))) := hCC
          obtain ⟨x0, x1, x2, x3, x4⟩ := five_cells hCC
          have hsv := run_store_cell (P := Try.prog) w' N 1 30 (.slice (some ad) l0 (0)) _ (by kernel_rfl) rfl rfl x1 (frozen_of_row w' N 1 _ _ hCC)
          rw [setCell_eq_setRow w' N 1 _ 32 (0, 0) _ hCC] at hsv
          clear hCC x0 x1 x2 x3 x4
          unfold Run
          rw [run_storeE 30 _ _ rfl q22 q17 hsv]
          refine HK.out _ _ (.inr ⟨⟨gro_set HC.out.1 HC2.out rfl, setRow_heap _ _ _ _ _ _ HC2.out⟩, fun j hj hlj u hr => ?_⟩) trivial
          refine rl_sg (S := fun x y => (∃ D, x.heap[N]? = some (.cells D 32 (0, 0))) ∧ ∀ j, j ≠ N → y.heap[j]? = x.heap[j]?) (ex := [8]) 0 (by exact ⟨.inr (is_sg _ _), .inr (is_sg _ _), .inr (is_sg _ _), .inr (is_sg _ _), .inr (is_sg _ _), .inr (is_sg _ _), .inr (fun u x y hxy ⟨A', c', h1, h2⟩ => ⟨A', c', h1, h2.other hxy.1.choose_spec (by decide) hxy.2⟩), .inr (is_sg _ _), .inl rfl, .inr (is_sg _ _), trivial⟩) j u _ _ ?_ ⟨⟨_, HC2.out⟩, setRow_cells _ _ _⟩ hr
          simp at hj ⊢
          omega
        · intro L ev w' hC hL hx K hK
          have e1 : ev (.tmp 1) = _ := hx.base 1 (by kernel_rfl)
          have HK := Lib.hid hK
          have HC := Lib.hid hC
          have HL := Lib.hid hL
          have HX := Lib.hid hx
          have hc := hx.cst
          skip
          clear hx hK hC hL
          unfold Run
          simp [execOp, Upon, go_sem, *]
          exact HK.out _ _ (.inl ⟨Below.refl _ _, by decide⟩) rfl
      · exact rl_mono ⟨is_mono _, is_mono _, is_mono _, is_mono _, is_mono _, is_mono _, fun _ _ _ hb ⟨A', c', h1, h2⟩ => ⟨A', c', h1, h2.below hb (Nat.le_refl _)⟩, is_mono _, any_mono, is_mono _, trivial⟩
      · exact fun L1 L2 w1 he h => ⟨h.1, by rw [← he 8 (by simp)]; exact h.2⟩
      · exact fun L1 w1 w2 hb h => ⟨h.1.trans (Gro.of hb), (hb.block _ (row_lt h.2)).trans h.2⟩
      · exact ⟨Gro.refl _, RX.out⟩
      · simp
      intro us wr hG hH
      obtain ⟨-, -, -, -, -, -, h6, -, -, h9, -⟩ := hH
      simp only [fillM]
      change (fun v w => ∃ A' c', v = .slice A' (l2 + 1) c' ∧ SR w A' c' (T ++ [f]) : Pred) (us 21) wr at h6
      change us 23 = _ at h9
      rw [h9]
      clear h9
      generalize us 15 = v15
      generalize us 16 = v16
      generalize us 17 = v17
      generalize us 18 = v18
      generalize us 19 = v19
      generalize us 20 = v20
      generalize us 21 = v21 at h6 ⊢
      generalize us 22 = v22
      obtain ⟨A', c', rfl, s'⟩ := h6
      obtain ⟨hg1, hg2⟩ := hG
      have HGR := Lib.hid hg1
      have SN := Lib.hid s'
      have RXG : Hid (wr.heap[N]? = some (.cells #[.int .i64 (n : Int), .slice (some ad) l0 (0), .slice A2 l2 c2, .slice A3 l3 c3, .int .i64 (k : Int)] 32 (0, 0))) := hg2
      clear hg1 hg2 s'
      obtain ⟨x0, x1, x2, x3, x4⟩ := five_cells RXG.out
      have hsv := run_store_cell (P := Try.prog) wr N 2 30 (.slice A' (l2 + 1) c') _ (by kernel_rfl) rfl rfl x2 (frozen_of_row wr N 2 _ _ RXG.out)
      rw [setCell_eq_setRow wr N 2 _ 32 (0, 0) _ RXG.out] at hsv
      clear x0 x1 x2 x3 x4
      refine wp_of_run ?_
      unfold Run
      rw [run_storeE 30 _ _ rfl rfl rfl hsv]
      simp only [Upon, Act.put]
      clear hsv
      change _ = _ at hN
      have RX9 : Hid ((wr.setRow N #[.int .i64 (n : Int), .slice (some ad) l0 (0), .slice A' (l2 + 1) c', .slice A3 l3 c3, .int .i64 (k : Int)]).heap[N]? = some (.cells #[.int .i64 (n : Int), .slice (some ad) l0 (0), .slice A' (l2 + 1) c', .slice A3 l3 c3, .int .i64 (k : Int)] 32 (0, 0))) := setRow_heap _ _ _ _ _ _ RXG.out
      have RY9 : Hid ((wr.setRow N #[.int .i64 (n : Int), .slice (some ad) l0 (0), .slice A' (l2 + 1) c', .slice A3 l3 c3, .int .i64 (k : Int)]).heap[N + 1]? = some (.cells #[.int .i64 0, .slice none 0 0, .slice none 0 0, .slice none 0 0, .int .i64 0] 32 (0, 0))) := (setRow_other _ _ _ _ (by omega)).trans ((HGR.out.block _ (row_lt RY.out) (by omega)).trans RY.out)
      have TA9 := Lib.hid ((HTL.out.gro HGR.out RX.out (by decide)).other RXG.out (by decide) (setRow_cells wr N #[.int .i64 (n : Int), .slice (some ad) l0 (0), .slice A' (l2 + 1) c', .slice A3 l3 c3, .int .i64 (k : Int)]))
      have TB9 := Lib.hid (SN.out.other RXG.out (by decide) (setRow_cells wr N #[.int .i64 (n : Int), .slice (some ad) l0 (0), .slice A' (l2 + 1) c', .slice A3 l3 c3, .int .i64 (k : Int)]))
      have S19 := Lib.hid ((S1.out.gro HGR.out RX.out (by decide)).other RXG.out (by decide) (setRow_cells wr N #[.int .i64 (n : Int), .slice (some ad) l0 (0), .slice A' (l2 + 1) c', .slice A3 l3 c3, .int .i64 (k : Int)]))
      have S39 := Lib.hid ((S3.out.gro HGR.out RX.out (by decide)).other RXG.out (by decide) (setRow_cells wr N #[.int .i64 (n : Int), .slice (some ad) l0 (0), .slice A' (l2 + 1) c', .slice A3 l3 c3, .int .i64 (k : Int)]))
      have HB9 : Hid (Below N w (wr.setRow N #[.int .i64 (n : Int), .slice (some ad) l0 (0), .slice A' (l2 + 1) c', .slice A3 l3 c3, .int .i64 (k : Int)])) := below_setRow (HBN.out.trans ⟨HGR.out.os, HGR.out.tape, HGR.out.output, HGR.out.size, fun b hb => HGR.out.block b (by have := HBN.out.size; omega) (by omega)⟩) (Nat.le_refl _) _
      show Exit.then _ _ Exit.normal _ (wr.setRow N #[.int .i64 (n : Int), .slice (some ad) l0 (0), .slice A' (l2 + 1) c', .slice A3 l3 c3, .int .i64 (k : Int)])
      generalize wr.setRow N #[.int .i64 (n : Int), .slice (some ad) l0 (0), .slice A' (l2 + 1) c', .slice A3 l3 c3, .int .i64 (k : Int)] = w9 at RX9 RY9 TA9 TB9 S19 S39 HB9 ⊢
      clear RXG SN HGR RX RY S1 S2 S3 HTL HBN HMO HSL
      have RX := RX9
      have RY := RY9
      have HBN := HB9
      have TA := TA9
      have TB := TB9
      have S1 := S19
      have S3 := S39
      clear RX9 RY9 HB9 TA9 TB9 S19 S39

      have TAE := Lib.hid (TA.out.other RY.out (by decide) (setRow_cells w9 _ (#[.int .i64 (n : Int), .slice (some ad) l0 (0), .slice A' (l2 + 1) c', .slice A3 l3 c3, .int .i64 (k : Int)] : Array Value)))
      have TBE := Lib.hid (TB.out.other RY.out (by decide) (setRow_cells w9 _ (#[.int .i64 (n : Int), .slice (some ad) l0 (0), .slice A' (l2 + 1) c', .slice A3 l3 c3, .int .i64 (k : Int)] : Array Value)))
      have S3E := Lib.hid (S3.out.other RY.out (by decide) (setRow_cells w9 _ (#[.int .i64 (n : Int), .slice (some ad) l0 (0), .slice A' (l2 + 1) c', .slice A3 l3 c3, .int .i64 (k : Int)] : Array Value)))
      have RYE := Lib.hid (setRow_heap w9 (N + 1) _ (#[.int .i64 (n : Int), .slice (some ad) l0 (0), .slice A' (l2 + 1) c', .slice A3 l3 c3, .int .i64 (k : Int)] : Array Value) _ _ RY.out)
      have HBE := Lib.hid (below_setRow HBN.out (by omega : N ≤ N + 1) (#[.int .i64 (n : Int), .slice (some ad) l0 (0), .slice A' (l2 + 1) c', .slice A3 l3 c3, .int .i64 (k : Int)] : Array Value))
      obtain ⟨d0, d1, d2, d3, d4⟩ := five_cells RX.out
      go_wp2_with (first | refine wpList_load_row rfl 32 _ rfl N rfl 32 #[.int .i64 (n : Int), .slice (some ad) l0 (0), .slice A' (l2 + 1) c', .slice A3 l3 c3, .int .i64 (k : Int)] (0, 0) _ RX.out Try.underlying32 rfl (by kernel_rfl) ?_ | refine wpList_store_row rfl 32 _ _ rfl (N + 1) #[.int .i64 (n : Int), .slice (some ad) l0 (0), .slice A' (l2 + 1) c', .slice A3 l3 c3, .int .i64 (k : Int)] rfl rfl 32 _ RY.out (by kernel_rfl) rfl (rfC_ones _ _ _ _ _ _ _ _ _ _ _) ?_)
      refine ret_three (g := N + 1) rfl rfl RYE.out Try.underlying32 rfl (by kernel_rfl) rfl ?_
      rw [HV.out]
      exact ⟨_, rfl, ⟨_, _, _, _, _, _, by simp only [rfC, HK1.out, List.length_append, List.length_singleton, HL0.out, HL2.out, HL3.out], TAE.out, TBE.out, S3E.out⟩, HBE.out⟩
    · 
      have HTL : Hid (SR w1 (some (ad.add 1)) (c1 - 1) P) := by have := S1.out.tail; show SR _ _ _ _; simpa [hc1] using this
      have HSL : Hid (∀ w : World, (Instr.slice 30 (.slice (some ad) (l0 + 1) c1) (some (.int .i64 1)) none none).run Try.prog w = .ok (.slice (some (ad.add 1)) l0 (c1 - 1)) w) := fun w => by
        have := run_slice_l (P := Try.prog) 30 9 1 Try.underlying30 (by kernel_rfl) (some ad) (l0 + 1) c1 1 (by omega) w
        simpa [hc1] using this
      go_upto_region 4 with (fail)
      clear d0 d1 d2 d3 d4 hcell hw1
      apply wp_region_relyL [8] (fun Ld w' => Gro (· = N) w1 w' ∧ w'.heap[N]? = some (.cells (if Ld 8 then #[.int .i64 (n : Int), .slice (some (ad.add 1)) l0 (c1 - 1), .slice A2 l2 c2, .slice A3 l3 c3, .int .i64 (k : Int)] else #[.int .i64 (n : Int), .slice (some ad) (l0 + 1) c1, .slice A2 l2 c2, .slice A3 l3 c3, .int .i64 (k : Int)]) 32 (0, 0))) (RL [Is (.pointer (some ⟨N, 1, none⟩)), Is (.slice (some ad) (l0 + 1) c1), Is (.slice (some (ad.add 1)) l0 (c1 - 1)), Is (.pointer (some ⟨N, 2, none⟩)), Is (.slice A2 l2 c2), Is _, fun v w => ∃ A' c', v = .slice A' (l2 + 1) c' ∧ SR w A' c' (T ++ [f]), Is (.pointer (some ⟨N, 1, none⟩)), Any, Is (.pointer (some ⟨N, 2, none⟩))]) [false, false, false, false, false, false, false, false, false, false, false, false, false, false, false, true, true, true, true, true, true, true, true, true, false, false] _ rfl
      · kernel_rfl
      · kernel_rfl
      · kernel_rfl
      · kernel_rfl
      · refine ⟨?_, ?_, ?_, ?_, ?_, ?_, ?_, ?_, ?_, ?_, trivial⟩
        · intro L ev w' hC hL hx K hK
          have e1 : ev (.tmp 1) = _ := hx.base 1 (by kernel_rfl)
          have HK := Lib.hid hK
          have HC := Lib.hid hC
          have HL := Lib.hid hL
          have HX := Lib.hid hx
          have hc := hx.cst
          skip
          clear hx hK hC hL
          unfold Run
          simp [execOp, Upon, go_sem, *]
          exact HK.out _ _ (.inl ⟨Below.refl _ _, by decide⟩) rfl
        · intro L ev w' hC hL hx K hK
          have e15 := hx.held 0 _ rfl (by kernel_rfl)
          change ev (.tmp 15) = _ at e15
          have HK := Lib.hid hK
          have HC := Lib.hid hC
          have HL := Lib.hid hL
          have HX := Lib.hid hx
          have hc := hx.cst
          skip
          clear hx hK hC hL
          have hL8 : L 8 = false := Bool.eq_false_iff.2 fun h => by have h1 := HX.out.closed 8 _ 1 rfl h (by kernel_rfl); rw [HL.out] at h1; cases h1
          have hCC := HC.out.2
          rw [hL8] at hCC
          obtain ⟨x0, x1, x2, x3, x4⟩ := five_cells hCC
          clear hCC
          unfold Run
          simp [execOp, Upon, go_sem, *]
          exact HK.out _ _ (.inl ⟨Below.refl _ _, by decide⟩) rfl
        · intro L ev w' hC hL hx K hK
          have e16 := hx.held 1 _ rfl (by kernel_rfl)
          change ev (.tmp 16) = _ at e16
          have HK := Lib.hid hK
          have HC := Lib.hid hC
          have HL := Lib.hid hL
          have HX := Lib.hid hx
          have hc := hx.cst
          skip
          clear hx hK hC hL
          have hrun := HSL.out w'
          unfold Run
          rw [run_sliceE 30 _ (some _) none rfl Try.underlying30 e16 (by simp only [Option.map_some, Option.map_none, hc]; exact hrun)]
          exact HK.out _ _ (.inl ⟨Below.refl _ _, by decide⟩) rfl
        · intro L ev w' hC hL hx K hK
          have e1 : ev (.tmp 1) = _ := hx.base 1 (by kernel_rfl)
          have HK := Lib.hid hK
          have HC := Lib.hid hC
          have HL := Lib.hid hL
          have HX := Lib.hid hx
          have hc := hx.cst
          skip
          clear hx hK hC hL
          unfold Run
          simp [execOp, Upon, go_sem, *]
          exact HK.out _ _ (.inl ⟨Below.refl _ _, by decide⟩) rfl
        · intro L ev w' hC hL hx K hK
          have e18 := hx.held 3 _ rfl (by kernel_rfl)
          change ev (.tmp 18) = _ at e18
          have HK := Lib.hid hK
          have HC := Lib.hid hC
          have HL := Lib.hid hL
          have HX := Lib.hid hx
          have hc := hx.cst
          skip
          clear hx hK hC hL
          have hL8 : L 8 = false := Bool.eq_false_iff.2 fun h => by have h1 := HX.out.closed 8 _ 4 rfl h (by kernel_rfl); rw [HL.out] at h1; cases h1
          have hCC := HC.out.2
          rw [hL8] at hCC
          obtain ⟨x0, x1, x2, x3, x4⟩ := five_cells hCC
          clear hCC
          unfold Run
          simp [execOp, Upon, go_sem, *]
          exact HK.out _ _ (.inl ⟨Below.refl _ _, by decide⟩) rfl
        · intro L ev w' hC hL hx K hK
          have e5 : ev (.tmp 5) = _ := hx.base 5 (by kernel_rfl)
          have HK := Lib.hid hK
          have HC := Lib.hid hC
          have HL := Lib.hid hL
          have HX := Lib.hid hx
          have hc := hx.cst
          skip
          clear hx hK hC hL
          unfold Run
          simp [execOp, Upon, go_sem, *]
          exact HK.out _ _ (.inl ⟨Below.refl _ _, by decide⟩) rfl
        · intro L ev w' hC hL hx K hK
          have e19 := hx.held 4 _ rfl (by kernel_rfl)
          have e20 := hx.held 5 _ rfl (by kernel_rfl)
          change ev (.tmp 19) = _ at e19
          change ev (.tmp 20) = _ at e20
          have HK := Lib.hid hK
          have HC := Lib.hid hC
          have HL := Lib.hid hL
          have HX := Lib.hid hx
          have hc := hx.cst
          have hf := hx.fn
          clear hx hK hC hL
          unfold Run
          simp [execOp, Upon, go_sem, *]
          refine (HMO.out w' HC.out.1).mono ?_
          rintro e w9 ⟨A', c', rfl, s', hb9⟩
          exact ⟨_, rfl, HK.out _ _ (.inl ⟨hb9, by decide⟩) ⟨A', c', rfl, s'⟩⟩
        · intro L ev w' hC hL hx K hK
          have e1 : ev (.tmp 1) = _ := hx.base 1 (by kernel_rfl)
          have HK := Lib.hid hK
          have HC := Lib.hid hC
          have HL := Lib.hid hL
          have HX := Lib.hid hx
          have hc := hx.cst
          skip
          clear hx hK hC hL
          unfold Run
          simp [execOp, Upon, go_sem, *]
          exact HK.out _ _ (.inl ⟨Below.refl _ _, by decide⟩) rfl
        · intro L ev w' hC hL hx K hK
          have e17 := hx.held 2 _ rfl (by kernel_rfl)
          have e22 := hx.held 7 _ rfl (by kernel_rfl)
          change ev (.tmp 17) = _ at e17
          change ev (.tmp 22) = _ at e22
          have HK := Lib.hid hK
          have HC := Lib.hid hC
          have HL := Lib.hid hL
          have HX := Lib.hid hx
          have hc := hx.cst
          skip
          clear hx hK hC hL
          have q22 : ev (.tmp 22) = .pointer (some ⟨N, 1, none⟩) := e22
          have q17 : ev (.tmp 17) = .slice (some (ad.add 1)) l0 (c1 - 1) := e17
          have hCC := HC.out.2
          rw [HL.out] at hCC
          have HC2 : Hid (w'.heap[N]? = some (.cells #[.int .i64 (n : Int), .slice (some ad) (l0 + 1) c1, .slice A2 l2 c2, .slice A3 l3 c3, .int .i64 (k : Int)] 32 (0, 0))) := hCC
          obtain ⟨x0, x1, x2, x3, x4⟩ := five_cells hCC
          have hsv := run_store_cell (P := Try.prog) w' N 1 30 (.slice (some (ad.add 1)) l0 (c1 - 1)) _ (by kernel_rfl) rfl rfl x1 (frozen_of_row w' N 1 _ _ hCC)
          rw [setCell_eq_setRow w' N 1 _ 32 (0, 0) _ hCC] at hsv
          clear hCC x0 x1 x2 x3 x4
          unfold Run
          rw [run_storeE 30 _ _ rfl q22 q17 hsv]
          refine HK.out _ _ (.inr ⟨⟨gro_set HC.out.1 HC2.out rfl, setRow_heap _ _ _ _ _ _ HC2.out⟩, fun j hj hlj u hr => ?_⟩) trivial
          refine rl_sg (S := fun x y => (∃ D, x.heap[N]? = some (.cells D 32 (0, 0))) ∧ ∀ j, j ≠ N → y.heap[j]? = x.heap[j]?) (ex := [8]) 0 (by exact ⟨.inr (is_sg _ _), .inr (is_sg _ _), .inr (is_sg _ _), .inr (is_sg _ _), .inr (is_sg _ _), .inr (is_sg _ _), .inr (fun u x y hxy ⟨A', c', h1, h2⟩ => ⟨A', c', h1, h2.other hxy.1.choose_spec (by decide) hxy.2⟩), .inr (is_sg _ _), .inl rfl, .inr (is_sg _ _), trivial⟩) j u _ _ ?_ ⟨⟨_, HC2.out⟩, setRow_cells _ _ _⟩ hr
          simp at hj ⊢
          omega
        · intro L ev w' hC hL hx K hK
          have e1 : ev (.tmp 1) = _ := hx.base 1 (by kernel_rfl)
          have HK := Lib.hid hK
          have HC := Lib.hid hC
          have HL := Lib.hid hL
          have HX := Lib.hid hx
          have hc := hx.cst
          skip
          clear hx hK hC hL
          unfold Run
          simp [execOp, Upon, go_sem, *]
          exact HK.out _ _ (.inl ⟨Below.refl _ _, by decide⟩) rfl
      · exact rl_mono ⟨is_mono _, is_mono _, is_mono _, is_mono _, is_mono _, is_mono _, fun _ _ _ hb ⟨A', c', h1, h2⟩ => ⟨A', c', h1, h2.below hb (Nat.le_refl _)⟩, is_mono _, any_mono, is_mono _, trivial⟩
      · exact fun L1 L2 w1 he h => ⟨h.1, by rw [← he 8 (by simp)]; exact h.2⟩
      · exact fun L1 w1 w2 hb h => ⟨h.1.trans (Gro.of hb), (hb.block _ (row_lt h.2)).trans h.2⟩
      · exact ⟨Gro.refl _, RX.out⟩
      · simp
      intro us wr hG hH
      obtain ⟨-, -, -, -, -, -, h6, -, -, h9, -⟩ := hH
      simp only [fillM]
      change (fun v w => ∃ A' c', v = .slice A' (l2 + 1) c' ∧ SR w A' c' (T ++ [f]) : Pred) (us 21) wr at h6
      change us 23 = _ at h9
      rw [h9]
      clear h9
      generalize us 15 = v15
      generalize us 16 = v16
      generalize us 17 = v17
      generalize us 18 = v18
      generalize us 19 = v19
      generalize us 20 = v20
      generalize us 21 = v21 at h6 ⊢
      generalize us 22 = v22
      obtain ⟨A', c', rfl, s'⟩ := h6
      obtain ⟨hg1, hg2⟩ := hG
      have HGR := Lib.hid hg1
      have SN := Lib.hid s'
      have RXG : Hid (wr.heap[N]? = some (.cells #[.int .i64 (n : Int), .slice (some (ad.add 1)) l0 (c1 - 1), .slice A2 l2 c2, .slice A3 l3 c3, .int .i64 (k : Int)] 32 (0, 0))) := hg2
      clear hg1 hg2 s'
      obtain ⟨x0, x1, x2, x3, x4⟩ := five_cells RXG.out
      have hsv := run_store_cell (P := Try.prog) wr N 2 30 (.slice A' (l2 + 1) c') _ (by kernel_rfl) rfl rfl x2 (frozen_of_row wr N 2 _ _ RXG.out)
      rw [setCell_eq_setRow wr N 2 _ 32 (0, 0) _ RXG.out] at hsv
      clear x0 x1 x2 x3 x4
      refine wp_of_run ?_
      unfold Run
      rw [run_storeE 30 _ _ rfl rfl rfl hsv]
      simp only [Upon, Act.put]
      clear hsv
      change _ = _ at hN
      have RX9 : Hid ((wr.setRow N #[.int .i64 (n : Int), .slice (some (ad.add 1)) l0 (c1 - 1), .slice A' (l2 + 1) c', .slice A3 l3 c3, .int .i64 (k : Int)]).heap[N]? = some (.cells #[.int .i64 (n : Int), .slice (some (ad.add 1)) l0 (c1 - 1), .slice A' (l2 + 1) c', .slice A3 l3 c3, .int .i64 (k : Int)] 32 (0, 0))) := setRow_heap _ _ _ _ _ _ RXG.out
      have RY9 : Hid ((wr.setRow N #[.int .i64 (n : Int), .slice (some (ad.add 1)) l0 (c1 - 1), .slice A' (l2 + 1) c', .slice A3 l3 c3, .int .i64 (k : Int)]).heap[N + 1]? = some (.cells #[.int .i64 0, .slice none 0 0, .slice none 0 0, .slice none 0 0, .int .i64 0] 32 (0, 0))) := (setRow_other _ _ _ _ (by omega)).trans ((HGR.out.block _ (row_lt RY.out) (by omega)).trans RY.out)
      have TA9 := Lib.hid ((HTL.out.gro HGR.out RX.out (by decide)).other RXG.out (by decide) (setRow_cells wr N #[.int .i64 (n : Int), .slice (some (ad.add 1)) l0 (c1 - 1), .slice A' (l2 + 1) c', .slice A3 l3 c3, .int .i64 (k : Int)]))
      have TB9 := Lib.hid (SN.out.other RXG.out (by decide) (setRow_cells wr N #[.int .i64 (n : Int), .slice (some (ad.add 1)) l0 (c1 - 1), .slice A' (l2 + 1) c', .slice A3 l3 c3, .int .i64 (k : Int)]))
      have S19 := Lib.hid ((S1.out.gro HGR.out RX.out (by decide)).other RXG.out (by decide) (setRow_cells wr N #[.int .i64 (n : Int), .slice (some (ad.add 1)) l0 (c1 - 1), .slice A' (l2 + 1) c', .slice A3 l3 c3, .int .i64 (k : Int)]))
      have S39 := Lib.hid ((S3.out.gro HGR.out RX.out (by decide)).other RXG.out (by decide) (setRow_cells wr N #[.int .i64 (n : Int), .slice (some (ad.add 1)) l0 (c1 - 1), .slice A' (l2 + 1) c', .slice A3 l3 c3, .int .i64 (k : Int)]))
      have HB9 : Hid (Below N w (wr.setRow N #[.int .i64 (n : Int), .slice (some (ad.add 1)) l0 (c1 - 1), .slice A' (l2 + 1) c', .slice A3 l3 c3, .int .i64 (k : Int)])) := below_setRow (HBN.out.trans ⟨HGR.out.os, HGR.out.tape, HGR.out.output, HGR.out.size, fun b hb => HGR.out.block b (by have := HBN.out.size; omega) (by omega)⟩) (Nat.le_refl _) _
      show Exit.then _ _ Exit.normal _ (wr.setRow N #[.int .i64 (n : Int), .slice (some (ad.add 1)) l0 (c1 - 1), .slice A' (l2 + 1) c', .slice A3 l3 c3, .int .i64 (k : Int)])
      generalize wr.setRow N #[.int .i64 (n : Int), .slice (some (ad.add 1)) l0 (c1 - 1), .slice A' (l2 + 1) c', .slice A3 l3 c3, .int .i64 (k : Int)] = w9 at RX9 RY9 TA9 TB9 S19 S39 HB9 ⊢
      clear RXG SN HGR RX RY S1 S2 S3 HTL HBN HMO HSL
      have RX := RX9
      have RY := RY9
      have HBN := HB9
      have TA := TA9
      have TB := TB9
      have S1 := S19
      have S3 := S39
      clear RX9 RY9 HB9 TA9 TB9 S19 S39

      have TAE := Lib.hid (TA.out.other RY.out (by decide) (setRow_cells w9 _ (#[.int .i64 (n : Int), .slice (some (ad.add 1)) l0 (c1 - 1), .slice A' (l2 + 1) c', .slice A3 l3 c3, .int .i64 (k : Int)] : Array Value)))
      have TBE := Lib.hid (TB.out.other RY.out (by decide) (setRow_cells w9 _ (#[.int .i64 (n : Int), .slice (some (ad.add 1)) l0 (c1 - 1), .slice A' (l2 + 1) c', .slice A3 l3 c3, .int .i64 (k : Int)] : Array Value)))
      have S3E := Lib.hid (S3.out.other RY.out (by decide) (setRow_cells w9 _ (#[.int .i64 (n : Int), .slice (some (ad.add 1)) l0 (c1 - 1), .slice A' (l2 + 1) c', .slice A3 l3 c3, .int .i64 (k : Int)] : Array Value)))
      have RYE := Lib.hid (setRow_heap w9 (N + 1) _ (#[.int .i64 (n : Int), .slice (some (ad.add 1)) l0 (c1 - 1), .slice A' (l2 + 1) c', .slice A3 l3 c3, .int .i64 (k : Int)] : Array Value) _ _ RY.out)
      have HBE := Lib.hid (below_setRow HBN.out (by omega : N ≤ N + 1) (#[.int .i64 (n : Int), .slice (some (ad.add 1)) l0 (c1 - 1), .slice A' (l2 + 1) c', .slice A3 l3 c3, .int .i64 (k : Int)] : Array Value))
      obtain ⟨d0, d1, d2, d3, d4⟩ := five_cells RX.out
      go_wp2_with (first | refine wpList_load_row rfl 32 _ rfl N rfl 32 #[.int .i64 (n : Int), .slice (some (ad.add 1)) l0 (c1 - 1), .slice A' (l2 + 1) c', .slice A3 l3 c3, .int .i64 (k : Int)] (0, 0) _ RX.out Try.underlying32 rfl (by kernel_rfl) ?_ | refine wpList_store_row rfl 32 _ _ rfl (N + 1) #[.int .i64 (n : Int), .slice (some (ad.add 1)) l0 (c1 - 1), .slice A' (l2 + 1) c', .slice A3 l3 c3, .int .i64 (k : Int)] rfl rfl 32 _ RY.out (by kernel_rfl) rfl (rfC_ones _ _ _ _ _ _ _ _ _ _ _) ?_)
      refine ret_three (g := N + 1) rfl rfl RYE.out Try.underlying32 rfl (by kernel_rfl) rfl ?_
      rw [HV.out]
      exact ⟨_, rfl, ⟨_, _, _, _, _, _, by simp only [rfC, HK1.out, List.length_append, List.length_singleton, HL0.out, HL2.out, HL3.out], TAE.out, TBE.out, S3E.out⟩, HBE.out⟩

set_option maxRecDepth 100000 in
set_option maxHeartbeats 4000000 in
theorem rf_fin {x : Rn} {v : Value} (w : World) (hf : Rf x w v) (hx : x.Ok) :
    Calls Try.prog 23 #[v] w fun e w' => ∃ v', e = .returned (.tuple #[v', .int .i64 ((finX x).2 : Int)]) ∧ Rf (finX x).1 w' v' ∧ Below w.heap.size w w' := by
  obtain ⟨n, r, D, T, P⟩ := x
  obtain ⟨A1, A2, A3, c1, c2, c3, rfl, s1, s2, s3⟩ := hf
  obtain ⟨k, hk⟩ : ∃ k, Rn.p ⟨n, r, D, T, P⟩ = k := ⟨_, rfl⟩
  have hk2 : k < 65536 := by rw [← hk]; exact Rn.p_lt _
  have hle := hx.le
  have hp2 := hx.may.pos
  simp only [Rn.len] at hle hp2
  obtain ⟨l1, hl1⟩ : ∃ l, P.length = l := ⟨_, rfl⟩
  obtain ⟨l2, hl2⟩ : ∃ l, T.length = l := ⟨_, rfl⟩
  obtain ⟨l3, hl3⟩ : ∃ l, D.length = l := ⟨_, rfl⟩
  simp only [rfC, hk, hl1, hl2, hl3]
  have HK := Lib.hid hk
  have HL1 := Lib.hid hl1
  have HL2 := Lib.hid hl2
  have HL3 := Lib.hid hl3
  have HXO := Lib.hid hx
  rw [hl1, hl2, hl3] at hle
  obtain ⟨N, hN⟩ : ∃ N, w.heap.size = N := ⟨_, rfl⟩
  obtain ⟨w1, hw1⟩ : ∃ w1, (w.alloc (.cells #[.int .i64 (n : Int), .slice A1 l1 c1, .slice A2 l2 c2, .slice A3 l3 c3, .int .i64 (k : Int)] 32)).alloc (.cells #[.int .i64 0, .slice none 0 0, .slice none 0 0, .slice none 0 0, .int .i64 0] 32) = w1 := ⟨_, rfl⟩
  have HBN : Hid (Below N w w1) := by rw [← hw1]; exact ((Below.refl _ _).alloc (by omega) _).alloc (by simp; omega) _
  have RX : Hid (w1.heap[N]? = some (.cells #[.int .i64 (n : Int), .slice A1 l1 c1, .slice A2 l2 c2, .slice A3 l3 c3, .int .i64 (k : Int)] 32 (0, 0))) := by rw [← hw1, ← hN]; exact old_alloc (heap_alloc_new w _) _
  have RY : Hid (w1.heap[N + 1]? = some (.cells #[.int .i64 0, .slice none 0 0, .slice none 0 0, .slice none 0 0, .int .i64 0] 32 (0, 0))) := by rw [← hw1, ← hN]; exact new_at1 w _ _
  have S1 := Lib.hid (s1.below HBN.out (by omega))
  have S2 := Lib.hid (s2.below HBN.out (by omega))
  have S3 := Lib.hid (s3.below HBN.out (by omega))
  rw [hN]
  clear s1 s2 s3 hk hl1 hl2 hl3 hx
  obtain ⟨d0, d1, d2, d3, d4⟩ := five_cells RX.out
  go_enter Try.func23, Try.ntmps23
  rcases T with _ | ⟨f, T⟩
  · have HV : Hid (finX ⟨n, r, D, [], P⟩ = (⟨n, r, D, [], P⟩, 2)) := rfl
    obtain rfl : 0 = l2 := HL2.out
    go_upto_region 2 with (fail)
    clear d0 d1 d2 d3 d4
    have RYE := Lib.hid (setRow_heap w1 (N + 1) _ (#[.int .i64 (n : Int), .slice A1 l1 c1, .slice A2 0 c2, .slice A3 l3 c3, .int .i64 (k : Int)] : Array Value) _ _ RY.out)
    have HBE := Lib.hid (below_setRow HBN.out (by omega : N ≤ N + 1) (#[.int .i64 (n : Int), .slice A1 l1 c1, .slice A2 0 c2, .slice A3 l3 c3, .int .i64 (k : Int)] : Array Value))
    have S1E := Lib.hid (S1.out.other RY.out (by decide) (setRow_cells w1 _ (#[.int .i64 (n : Int), .slice A1 l1 c1, .slice A2 0 c2, .slice A3 l3 c3, .int .i64 (k : Int)] : Array Value)))
    have S2E := Lib.hid (S2.out.other RY.out (by decide) (setRow_cells w1 _ (#[.int .i64 (n : Int), .slice A1 l1 c1, .slice A2 0 c2, .slice A3 l3 c3, .int .i64 (k : Int)] : Array Value)))
    have S3E := Lib.hid (S3.out.other RY.out (by decide) (setRow_cells w1 _ (#[.int .i64 (n : Int), .slice A1 l1 c1, .slice A2 0 c2, .slice A3 l3 c3, .int .i64 (k : Int)] : Array Value)))
    obtain ⟨d0, d1, d2, d3, d4⟩ := five_cells RX.out
    go_wp2_with (first | refine wpList_load_row rfl 32 _ rfl N rfl 32 #[.int .i64 (n : Int), .slice A1 l1 c1, .slice A2 0 c2, .slice A3 l3 c3, .int .i64 (k : Int)] (0, 0) _ RX.out Try.underlying32 rfl (by kernel_rfl) ?_ | refine wpList_store_row rfl 32 _ _ rfl (N + 1) #[.int .i64 (n : Int), .slice A1 l1 c1, .slice A2 0 c2, .slice A3 l3 c3, .int .i64 (k : Int)] rfl rfl 32 _ RY.out (by kernel_rfl) rfl (rfC_ones _ _ _ _ _ _ _ _ _ _ _) ?_)
    refine ret_two (g := N + 1) rfl rfl RYE.out Try.underlying32 rfl (by kernel_rfl) rfl ?_
    rw [HV.out]
    exact ⟨_, rfl, ⟨_, _, _, _, _, _, by simp only [rfC, HK.out, HL1.out, HL2.out, HL3.out], S1E.out, S2E.out, S3E.out⟩, HBE.out⟩
  · have HV : Hid (finX ⟨n, r, D, f :: T, P⟩ = (⟨n, r, D ++ [f], T, P⟩, 0)) := rfl
    obtain ⟨l0, hl0⟩ : ∃ l, T.length = l := ⟨_, rfl⟩
    obtain rfl : l0 + 1 = l2 := by have := HL2.out; rw [List.length_cons, hl0] at this; exact this
    obtain ⟨ad, rfl, -⟩ := S2.out.head
    have HC1 := Lib.hid S2.out.cap
    have HL0 := Lib.hid hl0
    have HK1 : Hid (Rn.p ⟨n, r, D ++ [f], T, P⟩ = k) := by
      have h0 := HK.out
      show _ = _
      simp only [Rn.p, Rn.len, List.length_append, List.length_cons, List.length_nil] at h0 ⊢
      rw [← h0]
      congr 2
      omega
    have HCE : Hid (∀ w' : World, Gro (· = N) w1 w' → w'.cell? ad = some (txt f)) := fun w' hg => by
      obtain ⟨ad', e, hc⟩ := (S2.out.gro hg RX.out (by decide)).head
      cases e
      exact hc
    have HMO := Lib.hid (fun (w' : World) (hg : Gro (· = N) w1 w') => more_any A3 c3 l3 D f w' (S3.out.gro hg RX.out (by decide)) HL3.out (by omega))
    clear hl0
    by_cases hc1 : c2 = 1
    · subst hc1
      have HTL : Hid (SR w1 (some ad) (0) T) := by have := S2.out.tail; show SR _ _ _ _; simpa using this
      have HSL : Hid (∀ w : World, (Instr.slice 30 (.slice (some ad) (l0 + 1) 1) (some (.int .i64 1)) none none).run Try.prog w = .ok (.slice (some ad) l0 (0)) w) := fun w => by
        have := run_slice_l (P := Try.prog) 30 9 1 Try.underlying30 (by kernel_rfl) (some ad) (l0 + 1) 1 1 (by omega) w
        simpa using this
      go_upto_region 3 with (fail)
      clear d0 d1 d2 d3 d4 hw1
      apply wp_region_relyL [11] (fun Ld w' => Gro (· = N) w1 w' ∧ w'.heap[N]? = some (.cells (if Ld 11 then #[.int .i64 (n : Int), .slice A1 l1 c1, .slice (some ad) l0 (0), .slice A3 l3 c3, .int .i64 (k : Int)] else #[.int .i64 (n : Int), .slice A1 l1 c1, .slice (some ad) (l0 + 1) 1, .slice A3 l3 c3, .int .i64 (k : Int)]) 32 (0, 0))) (RL [Is (.pointer (some ⟨N, 2, none⟩)), Is (.slice (some ad) (l0 + 1) 1), Is (.slice (some ad) l0 (0)), Is (.pointer (some ⟨N, 3, none⟩)), Is (.slice A3 l3 c3), Is (.pointer (some ⟨N, 2, none⟩)), Is (.slice (some ad) (l0 + 1) 1), Is (.pointer (some ad)), Is (txt f), fun v w => ∃ A' c', v = .slice A' (l3 + 1) c' ∧ SR w A' c' (D ++ [f]), Is (.pointer (some ⟨N, 2, none⟩)), Any, Is (.pointer (some ⟨N, 3, none⟩))]) [false, false, false, false, false, false, false, false, false, true, true, true, true, true, true, true, true, true, true, true, true, false] _ rfl
      · kernel_rfl
      · kernel_rfl
      · kernel_rfl
      · kernel_rfl
      · refine ⟨?_, ?_, ?_, ?_, ?_, ?_, ?_, ?_, ?_, ?_, ?_, ?_, ?_, trivial⟩
        · intro L ev w' hC hL hx K hK
          have e1 : ev (.tmp 1) = _ := hx.base 1 (by kernel_rfl)
          have HK := Lib.hid hK
          have HC := Lib.hid hC
          have HL := Lib.hid hL
          have HX := Lib.hid hx
          have hc := hx.cst
          skip
          clear hx hK hC hL
          unfold Run
          simp [execOp, Upon, go_sem, *]
          exact HK.out _ _ (.inl ⟨Below.refl _ _, by decide⟩) rfl
        · intro L ev w' hC hL hx K hK
          have e9 := hx.held 0 _ rfl (by kernel_rfl)
          change ev (.tmp 9) = _ at e9
          have HK := Lib.hid hK
          have HC := Lib.hid hC
          have HL := Lib.hid hL
          have HX := Lib.hid hx
          have hc := hx.cst
          skip
          clear hx hK hC hL
          have hL8 : L 11 = false := Bool.eq_false_iff.2 fun h => by have h1 := HX.out.closed 11 _ 1 rfl h (by kernel_rfl); rw [HL.out] at h1; cases h1
          have hCC := HC.out.2
          rw [hL8] at hCC
          obtain ⟨x0, x1, x2, x3, x4⟩ := five_cells hCC
          clear hCC
          unfold Run
          simp [execOp, Upon, go_sem, *]
          exact HK.out _ _ (.inl ⟨Below.refl _ _, by decide⟩) rfl
        · intro L ev w' hC hL hx K hK
          have e10 := hx.held 1 _ rfl (by kernel_rfl)
          change ev (.tmp 10) = _ at e10
          have HK := Lib.hid hK
          have HC := Lib.hid hC
          have HL := Lib.hid hL
          have HX := Lib.hid hx
          have hc := hx.cst
          skip
          clear hx hK hC hL
          have hrun := HSL.out w'
          unfold Run
          rw [run_sliceE 30 _ (some _) none rfl Try.underlying30 e10 (by simp only [Option.map_some, Option.map_none, hc]; exact hrun)]
          exact HK.out _ _ (.inl ⟨Below.refl _ _, by decide⟩) rfl
        · intro L ev w' hC hL hx K hK
          have e1 : ev (.tmp 1) = _ := hx.base 1 (by kernel_rfl)
          have HK := Lib.hid hK
          have HC := Lib.hid hC
          have HL := Lib.hid hL
          have HX := Lib.hid hx
          have hc := hx.cst
          skip
          clear hx hK hC hL
          unfold Run
          simp [execOp, Upon, go_sem, *]
          exact HK.out _ _ (.inl ⟨Below.refl _ _, by decide⟩) rfl
        · intro L ev w' hC hL hx K hK
          have e12 := hx.held 3 _ rfl (by kernel_rfl)
          change ev (.tmp 12) = _ at e12
          have HK := Lib.hid hK
          have HC := Lib.hid hC
          have HL := Lib.hid hL
          have HX := Lib.hid hx
          have hc := hx.cst
          skip
          clear hx hK hC hL
          have hL8 : L 11 = false := Bool.eq_false_iff.2 fun h => by have h1 := HX.out.closed 11 _ 4 rfl h (by kernel_rfl); rw [HL.out] at h1; cases h1
          have hCC := HC.out.2
          rw [hL8] at hCC
          obtain ⟨x0, x1, x2, x3, x4⟩ := five_cells hCC
          clear hCC
          unfold Run
          simp [execOp, Upon, go_sem, *]
          exact HK.out _ _ (.inl ⟨Below.refl _ _, by decide⟩) rfl
        · intro L ev w' hC hL hx K hK
          have e1 : ev (.tmp 1) = _ := hx.base 1 (by kernel_rfl)
          have HK := Lib.hid hK
          have HC := Lib.hid hC
          have HL := Lib.hid hL
          have HX := Lib.hid hx
          have hc := hx.cst
          skip
          clear hx hK hC hL
          unfold Run
          simp [execOp, Upon, go_sem, *]
          exact HK.out _ _ (.inl ⟨Below.refl _ _, by decide⟩) rfl
        · intro L ev w' hC hL hx K hK
          have e14 := hx.held 5 _ rfl (by kernel_rfl)
          change ev (.tmp 14) = _ at e14
          have HK := Lib.hid hK
          have HC := Lib.hid hC
          have HL := Lib.hid hL
          have HX := Lib.hid hx
          have hc := hx.cst
          skip
          clear hx hK hC hL
          have hL8 : L 11 = false := Bool.eq_false_iff.2 fun h => by have h1 := HX.out.closed 11 _ 6 rfl h (by kernel_rfl); rw [HL.out] at h1; cases h1
          have hCC := HC.out.2
          rw [hL8] at hCC
          obtain ⟨x0, x1, x2, x3, x4⟩ := five_cells hCC
          clear hCC
          unfold Run
          simp [execOp, Upon, go_sem, *]
          exact HK.out _ _ (.inl ⟨Below.refl _ _, by decide⟩) rfl
        · intro L ev w' hC hL hx K hK
          have e15 := hx.held 6 _ rfl (by kernel_rfl)
          change ev (.tmp 15) = _ at e15
          have HK := Lib.hid hK
          have HC := Lib.hid hC
          have HL := Lib.hid hL
          have HX := Lib.hid hx
          have hc := hx.cst
          skip
          clear hx hK hC hL
          unfold Run
          simp [execOp, Upon, go_sem, *]
          exact HK.out _ _ (.inl ⟨Below.refl _ _, by decide⟩) rfl
        · intro L ev w' hC hL hx K hK
          have e16 := hx.held 7 _ rfl (by kernel_rfl)
          change ev (.tmp 16) = _ at e16
          have HK := Lib.hid hK
          have HC := Lib.hid hC
          have HL := Lib.hid hL
          have HX := Lib.hid hx
          have hc := hx.cst
          skip
          clear hx hK hC hL
          have hcl : w'.cell? ad = some (txt f) := HCE.out w' HC.out.1
          unfold Run
          simp [execOp, Upon, go_sem, *]
          exact HK.out _ _ (.inl ⟨Below.refl _ _, by decide⟩) rfl
        · intro L ev w' hC hL hx K hK
          have e13 := hx.held 4 _ rfl (by kernel_rfl)
          have e17 := hx.held 8 _ rfl (by kernel_rfl)
          change ev (.tmp 13) = _ at e13
          change ev (.tmp 17) = _ at e17
          have HK := Lib.hid hK
          have HC := Lib.hid hC
          have HL := Lib.hid hL
          have HX := Lib.hid hx
          have hc := hx.cst
          have hf := hx.fn
          clear hx hK hC hL
          unfold Run
          simp [execOp, Upon, go_sem, *]
          refine (HMO.out w' HC.out.1).mono ?_
          rintro e w9 ⟨A', c', rfl, s', hb9⟩
          exact ⟨_, rfl, HK.out _ _ (.inl ⟨hb9, by decide⟩) ⟨A', c', rfl, s'⟩⟩
        · intro L ev w' hC hL hx K hK
          have e1 : ev (.tmp 1) = _ := hx.base 1 (by kernel_rfl)
          have HK := Lib.hid hK
          have HC := Lib.hid hC
          have HL := Lib.hid hL
          have HX := Lib.hid hx
          have hc := hx.cst
          skip
          clear hx hK hC hL
          unfold Run
          simp [execOp, Upon, go_sem, *]
          exact HK.out _ _ (.inl ⟨Below.refl _ _, by decide⟩) rfl
        · intro L ev w' hC hL hx K hK
          have e11 := hx.held 2 _ rfl (by kernel_rfl)
          have e19 := hx.held 10 _ rfl (by kernel_rfl)
          change ev (.tmp 11) = _ at e11
          change ev (.tmp 19) = _ at e19
          have HK := Lib.hid hK
          have HC := Lib.hid hC
          have HL := Lib.hid hL
          have HX := Lib.hid hx
          have hc := hx.cst
          skip
          clear hx hK hC hL
          have q22 : ev (.tmp 19) = .pointer (some ⟨N, 2, none⟩) := e19
          have q17 : ev (.tmp 11) = .slice (some ad) l0 (0) := e11
          have hCC := HC.out.2
          rw [HL.out] at hCC
          have HC2 : Hid (w'.heap[N]? = some (.cells #[.int .i64 (n : Int), .slice A1 l1 c1, .slice (some ad) (l0 + 1) 1, .slice A3 l3 c3, .int .i64 (k : Int)] 32 (0, 0))) := hCC
          obtain ⟨x0, x1, x2, x3, x4⟩ := five_cells hCC
          have hsv := run_store_cell (P := Try.prog) w' N 2 30 (.slice (some ad) l0 (0)) _ (by kernel_rfl) rfl rfl x2 (frozen_of_row w' N 2 _ _ hCC)
          rw [setCell_eq_setRow w' N 2 _ 32 (0, 0) _ hCC] at hsv
          clear hCC x0 x1 x2 x3 x4
          unfold Run
          rw [run_storeE 30 _ _ rfl q22 q17 hsv]
          refine HK.out _ _ (.inr ⟨⟨gro_set HC.out.1 HC2.out rfl, setRow_heap _ _ _ _ _ _ HC2.out⟩, fun j hj hlj u hr => ?_⟩) trivial
          refine rl_sg (S := fun x y => (∃ D, x.heap[N]? = some (.cells D 32 (0, 0))) ∧ ∀ j, j ≠ N → y.heap[j]? = x.heap[j]?) (ex := [11]) 0 (by exact ⟨.inr (is_sg _ _), .inr (is_sg _ _), .inr (is_sg _ _), .inr (is_sg _ _), .inr (is_sg _ _), .inr (is_sg _ _), .inr (is_sg _ _), .inr (is_sg _ _), .inr (is_sg _ _), .inr (fun u x y hxy ⟨A', c', h1, h2⟩ => ⟨A', c', h1, h2.other hxy.1.choose_spec (by decide) hxy.2⟩), .inr (is_sg _ _), .inl rfl, .inr (is_sg _ _), trivial⟩) j u _ _ ?_ ⟨⟨_, HC2.out⟩, setRow_cells _ _ _⟩ hr
          simp at hj ⊢
          omega
        · intro L ev w' hC hL hx K hK
          have e1 : ev (.tmp 1) = _ := hx.base 1 (by kernel_rfl)
          have HK := Lib.hid hK
          have HC := Lib.hid hC
          have HL := Lib.hid hL
          have HX := Lib.hid hx
          have hc := hx.cst
          skip
          clear hx hK hC hL
          unfold Run
          simp [execOp, Upon, go_sem, *]
          exact HK.out _ _ (.inl ⟨Below.refl _ _, by decide⟩) rfl
      · exact rl_mono ⟨is_mono _, is_mono _, is_mono _, is_mono _, is_mono _, is_mono _, is_mono _, is_mono _, is_mono _, fun _ _ _ hb ⟨A', c', h1, h2⟩ => ⟨A', c', h1, h2.below hb (Nat.le_refl _)⟩, is_mono _, any_mono, is_mono _, trivial⟩
      · exact fun L1 L2 w1 he h => ⟨h.1, by rw [← he 11 (by simp)]; exact h.2⟩
      · exact fun L1 w1 w2 hb h => ⟨h.1.trans (Gro.of hb), (hb.block _ (row_lt h.2)).trans h.2⟩
      · exact ⟨Gro.refl _, RX.out⟩
      · simp
      intro us wr hG hH
      obtain ⟨-, -, -, -, -, -, -, -, -, h9, -, -, h12, -⟩ := hH
      simp only [fillM]
      change (fun v w => ∃ A' c', v = .slice A' (l3 + 1) c' ∧ SR w A' c' (D ++ [f]) : Pred) (us 18) wr at h9
      change us 20 = _ at h12
      rw [h12]
      clear h12
      generalize us 9 = v9
      generalize us 10 = v10
      generalize us 11 = v11
      generalize us 12 = v12
      generalize us 13 = v13
      generalize us 14 = v14
      generalize us 15 = v15
      generalize us 16 = v16
      generalize us 17 = v17
      generalize us 18 = v18 at h9 ⊢
      generalize us 19 = v19
      obtain ⟨A', c', rfl, s'⟩ := h9
      obtain ⟨hg1, hg2⟩ := hG
      have HGR := Lib.hid hg1
      have SN := Lib.hid s'
      have RXG : Hid (wr.heap[N]? = some (.cells #[.int .i64 (n : Int), .slice A1 l1 c1, .slice (some ad) l0 (0), .slice A3 l3 c3, .int .i64 (k : Int)] 32 (0, 0))) := hg2
      clear hg1 hg2 s'
      obtain ⟨x0, x1, x2, x3, x4⟩ := five_cells RXG.out
      have hsv := run_store_cell (P := Try.prog) wr N 3 30 (.slice A' (l3 + 1) c') _ (by kernel_rfl) rfl rfl x3 (frozen_of_row wr N 3 _ _ RXG.out)
      rw [setCell_eq_setRow wr N 3 _ 32 (0, 0) _ RXG.out] at hsv
      clear x0 x1 x2 x3 x4
      refine wp_of_run ?_
      unfold Run
      rw [run_storeE 30 _ _ rfl rfl rfl hsv]
      simp only [Upon, Act.put]
      clear hsv
      change _ = _ at hN
      have RX9 : Hid ((wr.setRow N #[.int .i64 (n : Int), .slice A1 l1 c1, .slice (some ad) l0 (0), .slice A' (l3 + 1) c', .int .i64 (k : Int)]).heap[N]? = some (.cells #[.int .i64 (n : Int), .slice A1 l1 c1, .slice (some ad) l0 (0), .slice A' (l3 + 1) c', .int .i64 (k : Int)] 32 (0, 0))) := setRow_heap _ _ _ _ _ _ RXG.out
      have RY9 : Hid ((wr.setRow N #[.int .i64 (n : Int), .slice A1 l1 c1, .slice (some ad) l0 (0), .slice A' (l3 + 1) c', .int .i64 (k : Int)]).heap[N + 1]? = some (.cells #[.int .i64 0, .slice none 0 0, .slice none 0 0, .slice none 0 0, .int .i64 0] 32 (0, 0))) := (setRow_other _ _ _ _ (by omega)).trans ((HGR.out.block _ (row_lt RY.out) (by omega)).trans RY.out)
      have TA9 := Lib.hid ((HTL.out.gro HGR.out RX.out (by decide)).other RXG.out (by decide) (setRow_cells wr N #[.int .i64 (n : Int), .slice A1 l1 c1, .slice (some ad) l0 (0), .slice A' (l3 + 1) c', .int .i64 (k : Int)]))
      have TB9 := Lib.hid (SN.out.other RXG.out (by decide) (setRow_cells wr N #[.int .i64 (n : Int), .slice A1 l1 c1, .slice (some ad) l0 (0), .slice A' (l3 + 1) c', .int .i64 (k : Int)]))
      have S19 := Lib.hid ((S1.out.gro HGR.out RX.out (by decide)).other RXG.out (by decide) (setRow_cells wr N #[.int .i64 (n : Int), .slice A1 l1 c1, .slice (some ad) l0 (0), .slice A' (l3 + 1) c', .int .i64 (k : Int)]))
      have S39 := Lib.hid ((S3.out.gro HGR.out RX.out (by decide)).other RXG.out (by decide) (setRow_cells wr N #[.int .i64 (n : Int), .slice A1 l1 c1, .slice (some ad) l0 (0), .slice A' (l3 + 1) c', .int .i64 (k : Int)]))
      have HB9 : Hid (Below N w (wr.setRow N #[.int .i64 (n : Int), .slice A1 l1 c1, .slice (some ad) l0 (0), .slice A' (l3 + 1) c', .int .i64 (k : Int)])) := below_setRow (HBN.out.trans ⟨HGR.out.os, HGR.out.tape, HGR.out.output, HGR.out.size, fun b hb => HGR.out.block b (by have := HBN.out.size; omega) (by omega)⟩) (Nat.le_refl _) _
      show Exit.then _ _ Exit.normal _ (wr.setRow N #[.int .i64 (n : Int), .slice A1 l1 c1, .slice (some ad) l0 (0), .slice A' (l3 + 1) c', .int .i64 (k : Int)])
      generalize wr.setRow N #[.int .i64 (n : Int), .slice A1 l1 c1, .slice (some ad) l0 (0), .slice A' (l3 + 1) c', .int .i64 (k : Int)] = w9 at RX9 RY9 TA9 TB9 S19 S39 HB9 ⊢
      clear RXG SN HGR RX RY S1 S2 S3 HTL HBN HMO HSL HCE
      have RX := RX9
      have RY := RY9
      have HBN := HB9
      have TA := TA9
      have TB := TB9
      have S1 := S19
      have S3 := S39
      clear RX9 RY9 HB9 TA9 TB9 S19 S39

      have TAE := Lib.hid (TA.out.other RY.out (by decide) (setRow_cells w9 _ (#[.int .i64 (n : Int), .slice A1 l1 c1, .slice (some ad) l0 (0), .slice A' (l3 + 1) c', .int .i64 (k : Int)] : Array Value)))
      have TBE := Lib.hid (TB.out.other RY.out (by decide) (setRow_cells w9 _ (#[.int .i64 (n : Int), .slice A1 l1 c1, .slice (some ad) l0 (0), .slice A' (l3 + 1) c', .int .i64 (k : Int)] : Array Value)))
      have S1E := Lib.hid (S1.out.other RY.out (by decide) (setRow_cells w9 _ (#[.int .i64 (n : Int), .slice A1 l1 c1, .slice (some ad) l0 (0), .slice A' (l3 + 1) c', .int .i64 (k : Int)] : Array Value)))
      have RYE := Lib.hid (setRow_heap w9 (N + 1) _ (#[.int .i64 (n : Int), .slice A1 l1 c1, .slice (some ad) l0 (0), .slice A' (l3 + 1) c', .int .i64 (k : Int)] : Array Value) _ _ RY.out)
      have HBE := Lib.hid (below_setRow HBN.out (by omega : N ≤ N + 1) (#[.int .i64 (n : Int), .slice A1 l1 c1, .slice (some ad) l0 (0), .slice A' (l3 + 1) c', .int .i64 (k : Int)] : Array Value))
      obtain ⟨d0, d1, d2, d3, d4⟩ := five_cells RX.out
      go_wp2_with (first | refine wpList_load_row rfl 32 _ rfl N rfl 32 #[.int .i64 (n : Int), .slice A1 l1 c1, .slice (some ad) l0 (0), .slice A' (l3 + 1) c', .int .i64 (k : Int)] (0, 0) _ RX.out Try.underlying32 rfl (by kernel_rfl) ?_ | refine wpList_store_row rfl 32 _ _ rfl (N + 1) #[.int .i64 (n : Int), .slice A1 l1 c1, .slice (some ad) l0 (0), .slice A' (l3 + 1) c', .int .i64 (k : Int)] rfl rfl 32 _ RY.out (by kernel_rfl) rfl (rfC_ones _ _ _ _ _ _ _ _ _ _ _) ?_)
      refine ret_two (g := N + 1) rfl rfl RYE.out Try.underlying32 rfl (by kernel_rfl) rfl ?_
      rw [HV.out]
      exact ⟨_, rfl, ⟨_, _, _, _, _, _, by simp only [rfC, HK1.out, List.length_append, List.length_singleton, HL0.out, HL1.out, HL3.out], S1E.out, TAE.out, TBE.out⟩, HBE.out⟩
    · 
      have HTL : Hid (SR w1 (some (ad.add 1)) (c2 - 1) T) := by have := S2.out.tail; show SR _ _ _ _; simpa [hc1] using this
      have HSL : Hid (∀ w : World, (Instr.slice 30 (.slice (some ad) (l0 + 1) c2) (some (.int .i64 1)) none none).run Try.prog w = .ok (.slice (some (ad.add 1)) l0 (c2 - 1)) w) := fun w => by
        have := run_slice_l (P := Try.prog) 30 9 1 Try.underlying30 (by kernel_rfl) (some ad) (l0 + 1) c2 1 (by omega) w
        simpa [hc1] using this
      go_upto_region 3 with (fail)
      clear d0 d1 d2 d3 d4 hw1
      apply wp_region_relyL [11] (fun Ld w' => Gro (· = N) w1 w' ∧ w'.heap[N]? = some (.cells (if Ld 11 then #[.int .i64 (n : Int), .slice A1 l1 c1, .slice (some (ad.add 1)) l0 (c2 - 1), .slice A3 l3 c3, .int .i64 (k : Int)] else #[.int .i64 (n : Int), .slice A1 l1 c1, .slice (some ad) (l0 + 1) c2, .slice A3 l3 c3, .int .i64 (k : Int)]) 32 (0, 0))) (RL [Is (.pointer (some ⟨N, 2, none⟩)), Is (.slice (some ad) (l0 + 1) c2), Is (.slice (some (ad.add 1)) l0 (c2 - 1)), Is (.pointer (some ⟨N, 3, none⟩)), Is (.slice A3 l3 c3), Is (.pointer (some ⟨N, 2, none⟩)), Is (.slice (some ad) (l0 + 1) c2), Is (.pointer (some ad)), Is (txt f), fun v w => ∃ A' c', v = .slice A' (l3 + 1) c' ∧ SR w A' c' (D ++ [f]), Is (.pointer (some ⟨N, 2, none⟩)), Any, Is (.pointer (some ⟨N, 3, none⟩))]) [false, false, false, false, false, false, false, false, false, true, true, true, true, true, true, true, true, true, true, true, true, false] _ rfl
      · kernel_rfl
      · kernel_rfl
      · kernel_rfl
      · kernel_rfl
      · refine ⟨?_, ?_, ?_, ?_, ?_, ?_, ?_, ?_, ?_, ?_, ?_, ?_, ?_, trivial⟩
        · intro L ev w' hC hL hx K hK
          have e1 : ev (.tmp 1) = _ := hx.base 1 (by kernel_rfl)
          have HK := Lib.hid hK
          have HC := Lib.hid hC
          have HL := Lib.hid hL
          have HX := Lib.hid hx
          have hc := hx.cst
          skip
          clear hx hK hC hL
          unfold Run
          simp [execOp, Upon, go_sem, *]
          exact HK.out _ _ (.inl ⟨Below.refl _ _, by decide⟩) rfl
        · intro L ev w' hC hL hx K hK
          have e9 := hx.held 0 _ rfl (by kernel_rfl)
          change ev (.tmp 9) = _ at e9
          have HK := Lib.hid hK
          have HC := Lib.hid hC
          have HL := Lib.hid hL
          have HX := Lib.hid hx
          have hc := hx.cst
          skip
          clear hx hK hC hL
          have hL8 : L 11 = false := Bool.eq_false_iff.2 fun h => by have h1 := HX.out.closed 11 _ 1 rfl h (by kernel_rfl); rw [HL.out] at h1; cases h1
          have hCC := HC.out.2
          rw [hL8] at hCC
          obtain ⟨x0, x1, x2, x3, x4⟩ := five_cells hCC
          clear hCC
          unfold Run
          simp [execOp, Upon, go_sem, *]
          exact HK.out _ _ (.inl ⟨Below.refl _ _, by decide⟩) rfl
        · intro L ev w' hC hL hx K hK
          have e10 := hx.held 1 _ rfl (by kernel_rfl)
          change ev (.tmp 10) = _ at e10
          have HK := Lib.hid hK
          have HC := Lib.hid hC
          have HL := Lib.hid hL
          have HX := Lib.hid hx
          have hc := hx.cst
          skip
          clear hx hK hC hL
          have hrun := HSL.out w'
          unfold Run
          rw [run_sliceE 30 _ (some _) none rfl Try.underlying30 e10 (by simp only [Option.map_some, Option.map_none, hc]; exact hrun)]
          exact HK.out _ _ (.inl ⟨Below.refl _ _, by decide⟩) rfl
        · intro L ev w' hC hL hx K hK
          have e1 : ev (.tmp 1) = _ := hx.base 1 (by kernel_rfl)
          have HK := Lib.hid hK
          have HC := Lib.hid hC
          have HL := Lib.hid hL
          have HX := Lib.hid hx
          have hc := hx.cst
          skip
          clear hx hK hC hL
          unfold Run
          simp [execOp, Upon, go_sem, *]
          exact HK.out _ _ (.inl ⟨Below.refl _ _, by decide⟩) rfl
        · intro L ev w' hC hL hx K hK
          have e12 := hx.held 3 _ rfl (by kernel_rfl)
          change ev (.tmp 12) = _ at e12
          have HK := Lib.hid hK
          have HC := Lib.hid hC
          have HL := Lib.hid hL
          have HX := Lib.hid hx
          have hc := hx.cst
          skip
          clear hx hK hC hL
          have hL8 : L 11 = false := Bool.eq_false_iff.2 fun h => by have h1 := HX.out.closed 11 _ 4 rfl h (by kernel_rfl); rw [HL.out] at h1; cases h1
          have hCC := HC.out.2
          rw [hL8] at hCC
          obtain ⟨x0, x1, x2, x3, x4⟩ := five_cells hCC
          clear hCC
          unfold Run
          simp [execOp, Upon, go_sem, *]
          exact HK.out _ _ (.inl ⟨Below.refl _ _, by decide⟩) rfl
        · intro L ev w' hC hL hx K hK
          have e1 : ev (.tmp 1) = _ := hx.base 1 (by kernel_rfl)
          have HK := Lib.hid hK
          have HC := Lib.hid hC
          have HL := Lib.hid hL
          have HX := Lib.hid hx
          have hc := hx.cst
          skip
          clear hx hK hC hL
          unfold Run
          simp [execOp, Upon, go_sem, *]
          exact HK.out _ _ (.inl ⟨Below.refl _ _, by decide⟩) rfl
        · intro L ev w' hC hL hx K hK
          have e14 := hx.held 5 _ rfl (by kernel_rfl)
          change ev (.tmp 14) = _ at e14
          have HK := Lib.hid hK
          have HC := Lib.hid hC
          have HL := Lib.hid hL
          have HX := Lib.hid hx
          have hc := hx.cst
          skip
          clear hx hK hC hL
          have hL8 : L 11 = false := Bool.eq_false_iff.2 fun h => by have h1 := HX.out.closed 11 _ 6 rfl h (by kernel_rfl); rw [HL.out] at h1; cases h1
          have hCC := HC.out.2
          rw [hL8] at hCC
          obtain ⟨x0, x1, x2, x3, x4⟩ := five_cells hCC
          clear hCC
          unfold Run
          simp [execOp, Upon, go_sem, *]
          exact HK.out _ _ (.inl ⟨Below.refl _ _, by decide⟩) rfl
        · intro L ev w' hC hL hx K hK
          have e15 := hx.held 6 _ rfl (by kernel_rfl)
          change ev (.tmp 15) = _ at e15
          have HK := Lib.hid hK
          have HC := Lib.hid hC
          have HL := Lib.hid hL
          have HX := Lib.hid hx
          have hc := hx.cst
          skip
          clear hx hK hC hL
          unfold Run
          simp [execOp, Upon, go_sem, *]
          exact HK.out _ _ (.inl ⟨Below.refl _ _, by decide⟩) rfl
        · intro L ev w' hC hL hx K hK
          have e16 := hx.held 7 _ rfl (by kernel_rfl)
          change ev (.tmp 16) = _ at e16
          have HK := Lib.hid hK
          have HC := Lib.hid hC
          have HL := Lib.hid hL
          have HX := Lib.hid hx
          have hc := hx.cst
          skip
          clear hx hK hC hL
          have hcl : w'.cell? ad = some (txt f) := HCE.out w' HC.out.1
          unfold Run
          simp [execOp, Upon, go_sem, *]
          exact HK.out _ _ (.inl ⟨Below.refl _ _, by decide⟩) rfl
        · intro L ev w' hC hL hx K hK
          have e13 := hx.held 4 _ rfl (by kernel_rfl)
          have e17 := hx.held 8 _ rfl (by kernel_rfl)
          change ev (.tmp 13) = _ at e13
          change ev (.tmp 17) = _ at e17
          have HK := Lib.hid hK
          have HC := Lib.hid hC
          have HL := Lib.hid hL
          have HX := Lib.hid hx
          have hc := hx.cst
          have hf := hx.fn
          clear hx hK hC hL
          unfold Run
          simp [execOp, Upon, go_sem, *]
          refine (HMO.out w' HC.out.1).mono ?_
          rintro e w9 ⟨A', c', rfl, s', hb9⟩
          exact ⟨_, rfl, HK.out _ _ (.inl ⟨hb9, by decide⟩) ⟨A', c', rfl, s'⟩⟩
        · intro L ev w' hC hL hx K hK
          have e1 : ev (.tmp 1) = _ := hx.base 1 (by kernel_rfl)
          have HK := Lib.hid hK
          have HC := Lib.hid hC
          have HL := Lib.hid hL
          have HX := Lib.hid hx
          have hc := hx.cst
          skip
          clear hx hK hC hL
          unfold Run
          simp [execOp, Upon, go_sem, *]
          exact HK.out _ _ (.inl ⟨Below.refl _ _, by decide⟩) rfl
        · intro L ev w' hC hL hx K hK
          have e11 := hx.held 2 _ rfl (by kernel_rfl)
          have e19 := hx.held 10 _ rfl (by kernel_rfl)
          change ev (.tmp 11) = _ at e11
          change ev (.tmp 19) = _ at e19
          have HK := Lib.hid hK
          have HC := Lib.hid hC
          have HL := Lib.hid hL
          have HX := Lib.hid hx
          have hc := hx.cst
          skip
          clear hx hK hC hL
          have q22 : ev (.tmp 19) = .pointer (some ⟨N, 2, none⟩) := e19
          have q17 : ev (.tmp 11) = .slice (some (ad.add 1)) l0 (c2 - 1) := e11
          have hCC := HC.out.2
          rw [HL.out] at hCC
          have HC2 : Hid (w'.heap[N]? = some (.cells #[.int .i64 (n : Int), .slice A1 l1 c1, .slice (some ad) (l0 + 1) c2, .slice A3 l3 c3, .int .i64 (k : Int)] 32 (0, 0))) := hCC
          obtain ⟨x0, x1, x2, x3, x4⟩ := five_cells hCC
          have hsv := run_store_cell (P := Try.prog) w' N 2 30 (.slice (some (ad.add 1)) l0 (c2 - 1)) _ (by kernel_rfl) rfl rfl x2 (frozen_of_row w' N 2 _ _ hCC)
          rw [setCell_eq_setRow w' N 2 _ 32 (0, 0) _ hCC] at hsv
          clear hCC x0 x1 x2 x3 x4
          unfold Run
          rw [run_storeE 30 _ _ rfl q22 q17 hsv]
          refine HK.out _ _ (.inr ⟨⟨gro_set HC.out.1 HC2.out rfl, setRow_heap _ _ _ _ _ _ HC2.out⟩, fun j hj hlj u hr => ?_⟩) trivial
          refine rl_sg (S := fun x y => (∃ D, x.heap[N]? = some (.cells D 32 (0, 0))) ∧ ∀ j, j ≠ N → y.heap[j]? = x.heap[j]?) (ex := [11]) 0 (by exact ⟨.inr (is_sg _ _), .inr (is_sg _ _), .inr (is_sg _ _), .inr (is_sg _ _), .inr (is_sg _ _), .inr (is_sg _ _), .inr (is_sg _ _), .inr (is_sg _ _), .inr (is_sg _ _), .inr (fun u x y hxy ⟨A', c', h1, h2⟩ => ⟨A', c', h1, h2.other hxy.1.choose_spec (by decide) hxy.2⟩), .inr (is_sg _ _), .inl rfl, .inr (is_sg _ _), trivial⟩) j u _ _ ?_ ⟨⟨_, HC2.out⟩, setRow_cells _ _ _⟩ hr
          simp at hj ⊢
          omega
        · intro L ev w' hC hL hx K hK
          have e1 : ev (.tmp 1) = _ := hx.base 1 (by kernel_rfl)
          have HK := Lib.hid hK
          have HC := Lib.hid hC
          have HL := Lib.hid hL
          have HX := Lib.hid hx
          have hc := hx.cst
          skip
          clear hx hK hC hL
          unfold Run
          simp [execOp, Upon, go_sem, *]
          exact HK.out _ _ (.inl ⟨Below.refl _ _, by decide⟩) rfl
      · exact rl_mono ⟨is_mono _, is_mono _, is_mono _, is_mono _, is_mono _, is_mono _, is_mono _, is_mono _, is_mono _, fun _ _ _ hb ⟨A', c', h1, h2⟩ => ⟨A', c', h1, h2.below hb (Nat.le_refl _)⟩, is_mono _, any_mono, is_mono _, trivial⟩
      · exact fun L1 L2 w1 he h => ⟨h.1, by rw [← he 11 (by simp)]; exact h.2⟩
      · exact fun L1 w1 w2 hb h => ⟨h.1.trans (Gro.of hb), (hb.block _ (row_lt h.2)).trans h.2⟩
      · exact ⟨Gro.refl _, RX.out⟩
      · simp
      intro us wr hG hH
      obtain ⟨-, -, -, -, -, -, -, -, -, h9, -, -, h12, -⟩ := hH
      simp only [fillM]
      change (fun v w => ∃ A' c', v = .slice A' (l3 + 1) c' ∧ SR w A' c' (D ++ [f]) : Pred) (us 18) wr at h9
      change us 20 = _ at h12
      rw [h12]
      clear h12
      generalize us 9 = v9
      generalize us 10 = v10
      generalize us 11 = v11
      generalize us 12 = v12
      generalize us 13 = v13
      generalize us 14 = v14
      generalize us 15 = v15
      generalize us 16 = v16
      generalize us 17 = v17
      generalize us 18 = v18 at h9 ⊢
      generalize us 19 = v19
      obtain ⟨A', c', rfl, s'⟩ := h9
      obtain ⟨hg1, hg2⟩ := hG
      have HGR := Lib.hid hg1
      have SN := Lib.hid s'
      have RXG : Hid (wr.heap[N]? = some (.cells #[.int .i64 (n : Int), .slice A1 l1 c1, .slice (some (ad.add 1)) l0 (c2 - 1), .slice A3 l3 c3, .int .i64 (k : Int)] 32 (0, 0))) := hg2
      clear hg1 hg2 s'
      obtain ⟨x0, x1, x2, x3, x4⟩ := five_cells RXG.out
      have hsv := run_store_cell (P := Try.prog) wr N 3 30 (.slice A' (l3 + 1) c') _ (by kernel_rfl) rfl rfl x3 (frozen_of_row wr N 3 _ _ RXG.out)
      rw [setCell_eq_setRow wr N 3 _ 32 (0, 0) _ RXG.out] at hsv
      clear x0 x1 x2 x3 x4
      refine wp_of_run ?_
      unfold Run
      rw [run_storeE 30 _ _ rfl rfl rfl hsv]
      simp only [Upon, Act.put]
      clear hsv
      change _ = _ at hN
      have RX9 : Hid ((wr.setRow N #[.int .i64 (n : Int), .slice A1 l1 c1, .slice (some (ad.add 1)) l0 (c2 - 1), .slice A' (l3 + 1) c', .int .i64 (k : Int)]).heap[N]? = some (.cells #[.int .i64 (n : Int), .slice A1 l1 c1, .slice (some (ad.add 1)) l0 (c2 - 1), .slice A' (l3 + 1) c', .int .i64 (k : Int)] 32 (0, 0))) := setRow_heap _ _ _ _ _ _ RXG.out
      have RY9 : Hid ((wr.setRow N #[.int .i64 (n : Int), .slice A1 l1 c1, .slice (some (ad.add 1)) l0 (c2 - 1), .slice A' (l3 + 1) c', .int .i64 (k : Int)]).heap[N + 1]? = some (.cells #[.int .i64 0, .slice none 0 0, .slice none 0 0, .slice none 0 0, .int .i64 0] 32 (0, 0))) := (setRow_other _ _ _ _ (by omega)).trans ((HGR.out.block _ (row_lt RY.out) (by omega)).trans RY.out)
      have TA9 := Lib.hid ((HTL.out.gro HGR.out RX.out (by decide)).other RXG.out (by decide) (setRow_cells wr N #[.int .i64 (n : Int), .slice A1 l1 c1, .slice (some (ad.add 1)) l0 (c2 - 1), .slice A' (l3 + 1) c', .int .i64 (k : Int)]))
      have TB9 := Lib.hid (SN.out.other RXG.out (by decide) (setRow_cells wr N #[.int .i64 (n : Int), .slice A1 l1 c1, .slice (some (ad.add 1)) l0 (c2 - 1), .slice A' (l3 + 1) c', .int .i64 (k : Int)]))
      have S19 := Lib.hid ((S1.out.gro HGR.out RX.out (by decide)).other RXG.out (by decide) (setRow_cells wr N #[.int .i64 (n : Int), .slice A1 l1 c1, .slice (some (ad.add 1)) l0 (c2 - 1), .slice A' (l3 + 1) c', .int .i64 (k : Int)]))
      have S39 := Lib.hid ((S3.out.gro HGR.out RX.out (by decide)).other RXG.out (by decide) (setRow_cells wr N #[.int .i64 (n : Int), .slice A1 l1 c1, .slice (some (ad.add 1)) l0 (c2 - 1), .slice A' (l3 + 1) c', .int .i64 (k : Int)]))
      have HB9 : Hid (Below N w (wr.setRow N #[.int .i64 (n : Int), .slice A1 l1 c1, .slice (some (ad.add 1)) l0 (c2 - 1), .slice A' (l3 + 1) c', .int .i64 (k : Int)])) := below_setRow (HBN.out.trans ⟨HGR.out.os, HGR.out.tape, HGR.out.output, HGR.out.size, fun b hb => HGR.out.block b (by have := HBN.out.size; omega) (by omega)⟩) (Nat.le_refl _) _
      show Exit.then _ _ Exit.normal _ (wr.setRow N #[.int .i64 (n : Int), .slice A1 l1 c1, .slice (some (ad.add 1)) l0 (c2 - 1), .slice A' (l3 + 1) c', .int .i64 (k : Int)])
      generalize wr.setRow N #[.int .i64 (n : Int), .slice A1 l1 c1, .slice (some (ad.add 1)) l0 (c2 - 1), .slice A' (l3 + 1) c', .int .i64 (k : Int)] = w9 at RX9 RY9 TA9 TB9 S19 S39 HB9 ⊢
      clear RXG SN HGR RX RY S1 S2 S3 HTL HBN HMO HSL HCE
      have RX := RX9
      have RY := RY9
      have HBN := HB9
      have TA := TA9
      have TB := TB9
      have S1 := S19
      have S3 := S39
      clear RX9 RY9 HB9 TA9 TB9 S19 S39

      have TAE := Lib.hid (TA.out.other RY.out (by decide) (setRow_cells w9 _ (#[.int .i64 (n : Int), .slice A1 l1 c1, .slice (some (ad.add 1)) l0 (c2 - 1), .slice A' (l3 + 1) c', .int .i64 (k : Int)] : Array Value)))
      have TBE := Lib.hid (TB.out.other RY.out (by decide) (setRow_cells w9 _ (#[.int .i64 (n : Int), .slice A1 l1 c1, .slice (some (ad.add 1)) l0 (c2 - 1), .slice A' (l3 + 1) c', .int .i64 (k : Int)] : Array Value)))
      have S1E := Lib.hid (S1.out.other RY.out (by decide) (setRow_cells w9 _ (#[.int .i64 (n : Int), .slice A1 l1 c1, .slice (some (ad.add 1)) l0 (c2 - 1), .slice A' (l3 + 1) c', .int .i64 (k : Int)] : Array Value)))
      have RYE := Lib.hid (setRow_heap w9 (N + 1) _ (#[.int .i64 (n : Int), .slice A1 l1 c1, .slice (some (ad.add 1)) l0 (c2 - 1), .slice A' (l3 + 1) c', .int .i64 (k : Int)] : Array Value) _ _ RY.out)
      have HBE := Lib.hid (below_setRow HBN.out (by omega : N ≤ N + 1) (#[.int .i64 (n : Int), .slice A1 l1 c1, .slice (some (ad.add 1)) l0 (c2 - 1), .slice A' (l3 + 1) c', .int .i64 (k : Int)] : Array Value))
      obtain ⟨d0, d1, d2, d3, d4⟩ := five_cells RX.out
      go_wp2_with (first | refine wpList_load_row rfl 32 _ rfl N rfl 32 #[.int .i64 (n : Int), .slice A1 l1 c1, .slice (some (ad.add 1)) l0 (c2 - 1), .slice A' (l3 + 1) c', .int .i64 (k : Int)] (0, 0) _ RX.out Try.underlying32 rfl (by kernel_rfl) ?_ | refine wpList_store_row rfl 32 _ _ rfl (N + 1) #[.int .i64 (n : Int), .slice A1 l1 c1, .slice (some (ad.add 1)) l0 (c2 - 1), .slice A' (l3 + 1) c', .int .i64 (k : Int)] rfl rfl 32 _ RY.out (by kernel_rfl) rfl (rfC_ones _ _ _ _ _ _ _ _ _ _ _) ?_)
      refine ret_two (g := N + 1) rfl rfl RYE.out Try.underlying32 rfl (by kernel_rfl) rfl ?_
      rw [HV.out]
      exact ⟨_, rfl, ⟨_, _, _, _, _, _, by simp only [rfC, HK1.out, List.length_append, List.length_singleton, HL0.out, HL1.out, HL3.out], S1E.out, TAE.out, TBE.out⟩, HBE.out⟩

set_option maxRecDepth 100000 in
set_option maxHeartbeats 4000000 in
theorem rf_reap {x : Rn} {v : Value} (w : World) (hf : Rf x w v) (hx : x.Ok) :
    Calls Try.prog 24 #[v] w fun e w' => ∃ v', e = .returned (.tuple #[v', txt (reapX x).2.1, .int .i64 ((reapX x).2.2 : Int)]) ∧ Rf (reapX x).1 w' v' ∧ Below w.heap.size w w' := by
  obtain ⟨n, r, D, T, P⟩ := x
  obtain ⟨A1, A2, A3, c1, c2, c3, rfl, s1, s2, s3⟩ := hf
  obtain ⟨k, hk⟩ : ∃ k, Rn.p ⟨n, r, D, T, P⟩ = k := ⟨_, rfl⟩
  have hk2 : k < 65536 := by rw [← hk]; exact Rn.p_lt _
  have hle := hx.le
  have hp2 := hx.may.pos
  simp only [Rn.len] at hle hp2
  obtain ⟨l1, hl1⟩ : ∃ l, P.length = l := ⟨_, rfl⟩
  obtain ⟨l2, hl2⟩ : ∃ l, T.length = l := ⟨_, rfl⟩
  obtain ⟨l3, hl3⟩ : ∃ l, D.length = l := ⟨_, rfl⟩
  simp only [rfC, hk, hl1, hl2, hl3]
  have HK := Lib.hid hk
  have HL1 := Lib.hid hl1
  have HL2 := Lib.hid hl2
  have HL3 := Lib.hid hl3
  have HXO := Lib.hid hx
  rw [hl1, hl2, hl3] at hle
  obtain ⟨N, hN⟩ : ∃ N, w.heap.size = N := ⟨_, rfl⟩
  obtain ⟨w1, hw1⟩ : ∃ w1, (w.alloc (.cells #[.int .i64 (n : Int), .slice A1 l1 c1, .slice A2 l2 c2, .slice A3 l3 c3, .int .i64 (k : Int)] 32)).alloc (.cells #[.int .i64 0, .slice none 0 0, .slice none 0 0, .slice none 0 0, .int .i64 0] 32) = w1 := ⟨_, rfl⟩
  have HBN : Hid (Below N w w1) := by rw [← hw1]; exact ((Below.refl _ _).alloc (by omega) _).alloc (by simp; omega) _
  have RX : Hid (w1.heap[N]? = some (.cells #[.int .i64 (n : Int), .slice A1 l1 c1, .slice A2 l2 c2, .slice A3 l3 c3, .int .i64 (k : Int)] 32 (0, 0))) := by rw [← hw1, ← hN]; exact old_alloc (heap_alloc_new w _) _
  have RY : Hid (w1.heap[N + 1]? = some (.cells #[.int .i64 0, .slice none 0 0, .slice none 0 0, .slice none 0 0, .int .i64 0] 32 (0, 0))) := by rw [← hw1, ← hN]; exact new_at1 w _ _
  have S1 := Lib.hid (s1.below HBN.out (by omega))
  have S2 := Lib.hid (s2.below HBN.out (by omega))
  have S3 := Lib.hid (s3.below HBN.out (by omega))
  rw [hN]
  clear s1 s2 s3 hk hl1 hl2 hl3 hx
  obtain ⟨d0, d1, d2, d3, d4⟩ := five_cells RX.out
  go_enter Try.func24, Try.ntmps24
  rcases D with _ | ⟨f, D⟩
  · have HV : Hid (reapX ⟨n, r, [], T, P⟩ = (⟨n, r, [], T, P⟩, [], 2)) := rfl
    obtain rfl : 0 = l3 := HL3.out
    go_upto_region 2 with (fail)
    clear d0 d1 d2 d3 d4
    have RYE := Lib.hid (setRow_heap w1 (N + 1) _ (#[.int .i64 (n : Int), .slice A1 l1 c1, .slice A2 l2 c2, .slice A3 0 c3, .int .i64 (k : Int)] : Array Value) _ _ RY.out)
    have HBE := Lib.hid (below_setRow HBN.out (by omega : N ≤ N + 1) (#[.int .i64 (n : Int), .slice A1 l1 c1, .slice A2 l2 c2, .slice A3 0 c3, .int .i64 (k : Int)] : Array Value))
    have S1E := Lib.hid (S1.out.other RY.out (by decide) (setRow_cells w1 _ (#[.int .i64 (n : Int), .slice A1 l1 c1, .slice A2 l2 c2, .slice A3 0 c3, .int .i64 (k : Int)] : Array Value)))
    have S2E := Lib.hid (S2.out.other RY.out (by decide) (setRow_cells w1 _ (#[.int .i64 (n : Int), .slice A1 l1 c1, .slice A2 l2 c2, .slice A3 0 c3, .int .i64 (k : Int)] : Array Value)))
    have S3E := Lib.hid (S3.out.other RY.out (by decide) (setRow_cells w1 _ (#[.int .i64 (n : Int), .slice A1 l1 c1, .slice A2 l2 c2, .slice A3 0 c3, .int .i64 (k : Int)] : Array Value)))
    obtain ⟨d0, d1, d2, d3, d4⟩ := five_cells RX.out
    go_wp2_with (first | refine wpList_load_row rfl 32 _ rfl N rfl 32 #[.int .i64 (n : Int), .slice A1 l1 c1, .slice A2 l2 c2, .slice A3 0 c3, .int .i64 (k : Int)] (0, 0) _ RX.out Try.underlying32 rfl (by kernel_rfl) ?_ | refine wpList_store_row rfl 32 _ _ rfl (N + 1) #[.int .i64 (n : Int), .slice A1 l1 c1, .slice A2 l2 c2, .slice A3 0 c3, .int .i64 (k : Int)] rfl rfl 32 _ RY.out (by kernel_rfl) rfl (rfC_ones _ _ _ _ _ _ _ _ _ _ _) ?_)
    refine ret_three (g := N + 1) rfl rfl RYE.out Try.underlying32 rfl (by kernel_rfl) rfl ?_
    rw [HV.out]
    exact ⟨_, rfl, ⟨_, _, _, _, _, _, by simp only [rfC, HK.out, HL1.out, HL2.out, HL3.out], S1E.out, S2E.out, S3E.out⟩, HBE.out⟩
  · have HV : Hid (reapX ⟨n, r, f :: D, T, P⟩ = (⟨n, (r + 1) % 65536, D, T, P⟩, f, 0)) := rfl
    obtain ⟨l0, hl0⟩ : ∃ l, D.length = l := ⟨_, rfl⟩
    obtain rfl : l0 + 1 = l3 := by have := HL3.out; rw [List.length_cons, hl0] at this; exact this
    obtain ⟨ad, rfl, hcell⟩ := S3.out.head
    have HC1 := Lib.hid S3.out.cap
    have HL0 := Lib.hid hl0
    have HK1 : Hid (Rn.p ⟨n, (r + 1) % 65536, D, T, P⟩ = k) := by
      have h0 := HK.out
      show _ = _
      simp only [Rn.p, Rn.len, List.length_append, List.length_cons, List.length_nil] at h0 ⊢
      omega
    clear hl0
    by_cases hc1 : c3 = 1
    · subst hc1
      have HTL : Hid (SR w1 (some ad) (0) D) := by have := S3.out.tail; show SR _ _ _ _; simpa using this
      have hsl : ∀ w : World, (Instr.slice 30 (.slice (some ad) (l0 + 1) 1) (some (.int .i64 1)) none none).run Try.prog w = .ok (.slice (some ad) l0 (0)) w := fun w => by
        have := run_slice_l (P := Try.prog) 30 9 1 Try.underlying30 (by kernel_rfl) (some ad) (l0 + 1) 1 1 (by omega) w
        simpa using this
      have fz := frozen_of_row w1 N 3 _ _ RX.out
      have RX9 : Hid ((w1.setCell ⟨N, 3, none⟩ (.slice (some ad) l0 (0))).heap[N]? = some (.cells #[.int .i64 (n : Int), .slice A1 l1 c1, .slice A2 l2 c2, .slice (some ad) l0 (0), .int .i64 (k : Int)] 32 (0, 0))) := heap_setCell_same w1 N 3 _ _ _ RX.out
      have RY9 : Hid ((w1.setCell ⟨N, 3, none⟩ (.slice (some ad) l0 (0))).heap[N + 1]? = some (.cells #[.int .i64 0, .slice none 0 0, .slice none 0 0, .slice none 0 0, .int .i64 0] 32 (0, 0))) := (heap_setCell_other _ _ _ _ (by show N + 1 ≠ N; omega)).trans RY.out
      have hsc : ∀ j, j ≠ N → (w1.setCell ⟨N, 3, none⟩ (.slice (some ad) l0 (0))).heap[j]? = w1.heap[j]? := fun j hj => heap_setCell_other _ _ _ _ hj
      have S19 := Lib.hid (S1.out.other RX.out (by decide) hsc)
      have S29 := Lib.hid (S2.out.other RX.out (by decide) hsc)
      have TA9 := Lib.hid (HTL.out.other RX.out (by decide) hsc)
      have HB9 := Lib.hid (HBN.out.setCell (p := ⟨N, 3, none⟩) (Nat.le_refl _) (.slice (some ad) l0 (0)))
      go_upto_region 5 with (fail)
      clear d0 d1 d2 d3 d4 hcell hw1 fz hsl hsc
      generalize w1.setCell ⟨N, 3, none⟩ (.slice (some ad) l0 (0)) = w9 at RX9 RY9 S19 S29 TA9 HB9 ⊢
      clear RX RY S1 S2 S3 HTL HBN
      have RX := RX9
      have RY := RY9
      have HBN := HB9
      have TA := TA9
      have S1 := S19
      have S2 := S29
      clear RX9 RY9 HB9 TA9 S19 S29
      have TAE := Lib.hid (TA.out.other RY.out (by decide) (setRow_cells w9 _ (#[.int .i64 (n : Int), .slice A1 l1 c1, .slice A2 l2 c2, .slice (some ad) l0 (0), .int .i64 (k : Int)] : Array Value)))
      have S1E := Lib.hid (S1.out.other RY.out (by decide) (setRow_cells w9 _ (#[.int .i64 (n : Int), .slice A1 l1 c1, .slice A2 l2 c2, .slice (some ad) l0 (0), .int .i64 (k : Int)] : Array Value)))
      have S2E := Lib.hid (S2.out.other RY.out (by decide) (setRow_cells w9 _ (#[.int .i64 (n : Int), .slice A1 l1 c1, .slice A2 l2 c2, .slice (some ad) l0 (0), .int .i64 (k : Int)] : Array Value)))
      have RYE := Lib.hid (setRow_heap w9 (N + 1) _ (#[.int .i64 (n : Int), .slice A1 l1 c1, .slice A2 l2 c2, .slice (some ad) l0 (0), .int .i64 (k : Int)] : Array Value) _ _ RY.out)
      have HBE := Lib.hid (below_setRow HBN.out (by omega : N ≤ N + 1) (#[.int .i64 (n : Int), .slice A1 l1 c1, .slice A2 l2 c2, .slice (some ad) l0 (0), .int .i64 (k : Int)] : Array Value))
      obtain ⟨d0, d1, d2, d3, d4⟩ := five_cells RX.out
      go_wp2_with (first | refine wpList_load_row rfl 32 _ rfl N rfl 32 #[.int .i64 (n : Int), .slice A1 l1 c1, .slice A2 l2 c2, .slice (some ad) l0 (0), .int .i64 (k : Int)] (0, 0) _ RX.out Try.underlying32 rfl (by kernel_rfl) ?_ | refine wpList_store_row rfl 32 _ _ rfl (N + 1) #[.int .i64 (n : Int), .slice A1 l1 c1, .slice A2 l2 c2, .slice (some ad) l0 (0), .int .i64 (k : Int)] rfl rfl 32 _ RY.out (by kernel_rfl) rfl (rfC_ones _ _ _ _ _ _ _ _ _ _ _) ?_)
      refine ret_three (g := N + 1) rfl rfl RYE.out Try.underlying32 rfl (by kernel_rfl) rfl ?_
      rw [HV.out]
      exact ⟨_, rfl, ⟨_, _, _, _, _, _, by simp only [rfC, HK1.out, HL0.out, HL1.out, HL2.out], S1E.out, S2E.out, TAE.out⟩, HBE.out⟩
    · 
      have HTL : Hid (SR w1 (some ⟨ad.block, ad.off + 1, none⟩) (c3 - 1) D) := by have := S3.out.tail; rw [if_neg hc1, Option.map_some, add_one] at this; exact this
      have hsl : ∀ w : World, (Instr.slice 30 (.slice (some ad) (l0 + 1) c3) (some (.int .i64 1)) none none).run Try.prog w = .ok (.slice (some ⟨ad.block, ad.off + 1, none⟩) l0 (c3 - 1)) w := fun w => by
        have := run_slice_l (P := Try.prog) 30 9 1 Try.underlying30 (by kernel_rfl) (some ad) (l0 + 1) c3 1 (by omega) w
        rw [if_neg hc1, Option.map_some, Nat.one_mul, add_one] at this; simpa using this
      have fz := frozen_of_row w1 N 3 _ _ RX.out
      have RX9 : Hid ((w1.setCell ⟨N, 3, none⟩ (.slice (some ⟨ad.block, ad.off + 1, none⟩) l0 (c3 - 1))).heap[N]? = some (.cells #[.int .i64 (n : Int), .slice A1 l1 c1, .slice A2 l2 c2, .slice (some ⟨ad.block, ad.off + 1, none⟩) l0 (c3 - 1), .int .i64 (k : Int)] 32 (0, 0))) := heap_setCell_same w1 N 3 _ _ _ RX.out
      have RY9 : Hid ((w1.setCell ⟨N, 3, none⟩ (.slice (some ⟨ad.block, ad.off + 1, none⟩) l0 (c3 - 1))).heap[N + 1]? = some (.cells #[.int .i64 0, .slice none 0 0, .slice none 0 0, .slice none 0 0, .int .i64 0] 32 (0, 0))) := (heap_setCell_other _ _ _ _ (by show N + 1 ≠ N; omega)).trans RY.out
      have hsc : ∀ j, j ≠ N → (w1.setCell ⟨N, 3, none⟩ (.slice (some ⟨ad.block, ad.off + 1, none⟩) l0 (c3 - 1))).heap[j]? = w1.heap[j]? := fun j hj => heap_setCell_other _ _ _ _ hj
      have S19 := Lib.hid (S1.out.other RX.out (by decide) hsc)
      have S29 := Lib.hid (S2.out.other RX.out (by decide) hsc)
      have TA9 := Lib.hid (HTL.out.other RX.out (by decide) hsc)
      have HB9 := Lib.hid (HBN.out.setCell (p := ⟨N, 3, none⟩) (Nat.le_refl _) (.slice (some ⟨ad.block, ad.off + 1, none⟩) l0 (c3 - 1)))
      go_upto_region 5 with (fail)
      clear d0 d1 d2 d3 d4 hcell hw1 fz hsl hsc
      generalize w1.setCell ⟨N, 3, none⟩ (.slice (some ⟨ad.block, ad.off + 1, none⟩) l0 (c3 - 1)) = w9 at RX9 RY9 S19 S29 TA9 HB9 ⊢
      clear RX RY S1 S2 S3 HTL HBN
      have RX := RX9
      have RY := RY9
      have HBN := HB9
      have TA := TA9
      have S1 := S19
      have S2 := S29
      clear RX9 RY9 HB9 TA9 S19 S29
      have TAE := Lib.hid (TA.out.other RY.out (by decide) (setRow_cells w9 _ (#[.int .i64 (n : Int), .slice A1 l1 c1, .slice A2 l2 c2, .slice (some ⟨ad.block, ad.off + 1, none⟩) l0 (c3 - 1), .int .i64 (k : Int)] : Array Value)))
      have S1E := Lib.hid (S1.out.other RY.out (by decide) (setRow_cells w9 _ (#[.int .i64 (n : Int), .slice A1 l1 c1, .slice A2 l2 c2, .slice (some ⟨ad.block, ad.off + 1, none⟩) l0 (c3 - 1), .int .i64 (k : Int)] : Array Value)))
      have S2E := Lib.hid (S2.out.other RY.out (by decide) (setRow_cells w9 _ (#[.int .i64 (n : Int), .slice A1 l1 c1, .slice A2 l2 c2, .slice (some ⟨ad.block, ad.off + 1, none⟩) l0 (c3 - 1), .int .i64 (k : Int)] : Array Value)))
      have RYE := Lib.hid (setRow_heap w9 (N + 1) _ (#[.int .i64 (n : Int), .slice A1 l1 c1, .slice A2 l2 c2, .slice (some ⟨ad.block, ad.off + 1, none⟩) l0 (c3 - 1), .int .i64 (k : Int)] : Array Value) _ _ RY.out)
      have HBE := Lib.hid (below_setRow HBN.out (by omega : N ≤ N + 1) (#[.int .i64 (n : Int), .slice A1 l1 c1, .slice A2 l2 c2, .slice (some ⟨ad.block, ad.off + 1, none⟩) l0 (c3 - 1), .int .i64 (k : Int)] : Array Value))
      obtain ⟨d0, d1, d2, d3, d4⟩ := five_cells RX.out
      go_wp2_with (first | refine wpList_load_row rfl 32 _ rfl N rfl 32 #[.int .i64 (n : Int), .slice A1 l1 c1, .slice A2 l2 c2, .slice (some ⟨ad.block, ad.off + 1, none⟩) l0 (c3 - 1), .int .i64 (k : Int)] (0, 0) _ RX.out Try.underlying32 rfl (by kernel_rfl) ?_ | refine wpList_store_row rfl 32 _ _ rfl (N + 1) #[.int .i64 (n : Int), .slice A1 l1 c1, .slice A2 l2 c2, .slice (some ⟨ad.block, ad.off + 1, none⟩) l0 (c3 - 1), .int .i64 (k : Int)] rfl rfl 32 _ RY.out (by kernel_rfl) rfl (rfC_ones _ _ _ _ _ _ _ _ _ _ _) ?_)
      refine ret_three (g := N + 1) rfl rfl RYE.out Try.underlying32 rfl (by kernel_rfl) rfl ?_
      rw [HV.out]
      exact ⟨_, rfl, ⟨_, _, _, _, _, _, by simp only [rfC, HK1.out, HL0.out, HL1.out, HL2.out], S1E.out, S2E.out, TAE.out⟩, HBE.out⟩

set_option maxRecDepth 100000 in
set_option maxHeartbeats 4000000 in
theorem rf_quiet {x : Rn} {v : Value} (w : World) (hf : Rf x w v) (hx : x.Ok) :
    Calls Try.prog 25 #[v] w fun e w' => ∃ v' A c, e = .returned (.tuple #[v', .slice A x.P.length c]) ∧ Rf (quietX x) w' v' ∧ SR w' A c x.P ∧ Below w.heap.size w w' := by
  obtain ⟨n, r, D, T, P⟩ := x
  obtain ⟨A1, A2, A3, c1, c2, c3, rfl, s1, s2, s3⟩ := hf
  obtain ⟨k, hk⟩ : ∃ k, Rn.p ⟨n, r, D, T, P⟩ = k := ⟨_, rfl⟩
  have hk2 : k < 65536 := by rw [← hk]; exact Rn.p_lt _
  have hle := hx.le
  have hp2 := hx.may.pos
  simp only [Rn.len] at hle hp2
  obtain ⟨l1, hl1⟩ : ∃ l, P.length = l := ⟨_, rfl⟩
  obtain ⟨l2, hl2⟩ : ∃ l, T.length = l := ⟨_, rfl⟩
  obtain ⟨l3, hl3⟩ : ∃ l, D.length = l := ⟨_, rfl⟩
  simp only [rfC, hk, hl1, hl2, hl3]
  have HK := Lib.hid hk
  have HL1 := Lib.hid hl1
  have HL2 := Lib.hid hl2
  have HL3 := Lib.hid hl3
  have HXO := Lib.hid hx
  rw [hl1, hl2, hl3] at hle
  obtain ⟨N, hN⟩ : ∃ N, w.heap.size = N := ⟨_, rfl⟩
  obtain ⟨w1, hw1⟩ : ∃ w1, (w.alloc (.cells #[.int .i64 (n : Int), .slice A1 l1 c1, .slice A2 l2 c2, .slice A3 l3 c3, .int .i64 (k : Int)] 32)).alloc (.cells #[.int .i64 0, .slice none 0 0, .slice none 0 0, .slice none 0 0, .int .i64 0] 32) = w1 := ⟨_, rfl⟩
  have HBN : Hid (Below N w w1) := by rw [← hw1]; exact ((Below.refl _ _).alloc (by omega) _).alloc (by simp; omega) _
  have RX : Hid (w1.heap[N]? = some (.cells #[.int .i64 (n : Int), .slice A1 l1 c1, .slice A2 l2 c2, .slice A3 l3 c3, .int .i64 (k : Int)] 32 (0, 0))) := by rw [← hw1, ← hN]; exact old_alloc (heap_alloc_new w _) _
  have RY : Hid (w1.heap[N + 1]? = some (.cells #[.int .i64 0, .slice none 0 0, .slice none 0 0, .slice none 0 0, .int .i64 0] 32 (0, 0))) := by rw [← hw1, ← hN]; exact new_at1 w _ _
  have S1 := Lib.hid (s1.below HBN.out (by omega))
  have S2 := Lib.hid (s2.below HBN.out (by omega))
  have S3 := Lib.hid (s3.below HBN.out (by omega))
  rw [hN]
  clear s1 s2 s3 hk hl1 hl2 hl3 hx
  obtain ⟨d0, d1, d2, d3, d4⟩ := five_cells RX.out
  go_enter Try.func25, Try.ntmps25
  have RYE : Hid (((w1.setRow (N + 1) #[.int .i64 (n : Int), .slice none 0 0, .slice none 0 0, .slice none 0 0, .int .i64 (k : Int)]).drew).heap[N + 1]? = some (.cells #[.int .i64 (n : Int), .slice none 0 0, .slice none 0 0, .slice none 0 0, .int .i64 (k : Int)] 32 (0, 0))) := setRow_heap _ _ _ _ _ _ RY.out
  have HBE : Hid (Below N w ((w1.setRow (N + 1) #[.int .i64 (n : Int), .slice none 0 0, .slice none 0 0, .slice none 0 0, .int .i64 (k : Int)]).drew)) := below_drewN' (below_setRow HBN.out (by omega) _) 1
  have S1E : Hid (SR ((w1.setRow (N + 1) #[.int .i64 (n : Int), .slice none 0 0, .slice none 0 0, .slice none 0 0, .int .i64 (k : Int)]).drew) A1 c1 P) := S1.out.other RY.out (by decide) (setRow_cells w1 _ _)
  obtain ⟨y0, y1, y2, y3, y4⟩ := five_cells RY.out
  have g0 := frozen_of_row w1 (N + 1) 0 _ _ RY.out
  have g1 := frozen_of_row w1 (N + 1) 1 _ _ RY.out
  have g2 := frozen_of_row w1 (N + 1) 2 _ _ RY.out
  have g3 := frozen_of_row w1 (N + 1) 3 _ _ RY.out
  have g4 := frozen_of_row w1 (N + 1) 4 _ _ RY.out
  have HKQ : Hid (Rn.p (quietX ⟨n, r, D, T, P⟩) = k) := by
    show _ = _
    rw [(quiet_c (x := ⟨n, r, D, T, P⟩)).1]
    exact HK.out
  go_upto_region 1 with (fail)
  clear hw1
  go_region
  rw [row5 RY.out]
  go_wp2
  refine ret_two (g := N + 1) rfl rfl RYE.out Try.underlying32 rfl (by kernel_rfl) rfl ?_
  rw [← HL1.out]
  refine ⟨_, _, _, by rw [HL1.out]; rfl, ⟨none, none, none, 0, 0, 0, ?_, SR.none, SR.none, SR.none⟩, S1E.out, HBE.out⟩
  simp only [rfC, HKQ.out]
  rfl
end Go.Proofs.Ytdbiledmokldjaa
