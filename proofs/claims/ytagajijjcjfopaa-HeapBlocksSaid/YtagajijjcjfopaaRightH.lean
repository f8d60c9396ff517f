/-
  heap.Right: whether a heap is right, for all heaps that can be read. No condition beyond that.
-/
import Derived.Test.YtagajijjcjfopaaSmallH
namespace Go.Proofs.Ytagajijjcjfopaa
open Go.RowKit

set_option maxRecDepth 100000 in
set_option maxHeartbeats 4000000 in
theorem right_any (A1 A2 A3 : Option Addr) (nb nk nd c1 c2 c3 : Nat) (Z : List (Int × Int)) (lo hi : Nat) (w : World) (h : Rd w lo hi A2 (bksZ Z)) (hhi : hi ≤ w.heap.size) (hn : Z.length = nk) (hz : ∀ b ∈ Z, I64 b.1 ∧ I64 b.2) (hb : nb ≤ maxLen) (hk : nk ≤ 100000) (hd : nd ≤ maxLen) :
    Calls Try.prog 15 #[.agg #[.slice A1 nb c1, .slice A2 nk c2, .slice A3 nd c3]] w fun e w' => e = .returned (.bool (rightB nb nd Z)) ∧ Below w.heap.size w w' := by
  have HR := Lib.hid h
  have HHI := Lib.hid hhi
  have HN := Lib.hid hn
  have HZ := Lib.hid hz
  have hb2 : nb ≤ 9223372036854775807 := by unfold maxLen at hb; omega
  have hd2 : nd ≤ 9223372036854775807 := by unfold maxLen at hd; omega
  clear h hhi hn hz hb hd
  by_cases hok : nb % 64 = 0 ∧ 1 ≤ nb / 64 ∧ nb / 64 ≤ 64 ∧ nd = nb / 64
  · obtain ⟨h1, h2, h3, rfl⟩ := hok
    obtain ⟨p, hp⟩ : ∃ p, nb / 64 = p := ⟨_, rfl⟩
    have hnb : nb = 64 * p := by omega
    subst hnb
    have HV : Hid (rightB (64 * p) (64 * p / 64) Z = blkB (64 * p) 0 Z) := by
      show _ = _
      unfold rightB
      rw [decide_eq_true ⟨h1, h2, h3, rfl⟩, Bool.true_and]
    rw [HV.out]
    rw [hp] at h2 h3 ⊢
    clear h1 hp hd2 HV
    go_enter Try.func15, Try.ntmps15
    go_wp2
    go_loopw [34, 4] (fun t34 t4 wr => ∃ (k : Nat) (f : Int), k ≤ nk ∧ t34 = .int .i64 (k : Int) ∧ t4 = .int .i64 f ∧ 0 ≤ f ∧ f ≤ 64 * (p : Int) ∧ Hid (blkB (64 * p) 0 Z = blkB (64 * p) f (Z.drop k)) ∧ Hid (Below w.heap.size w wr) ∧ Hid (wr.heap[w.heap.size]? = some (.cells #[.slice A1 (64 * p) c1, .slice A2 nk c2, .slice A3 p c3] 29 (0, 0)))) (fun t34 _ _ => nk - (intOf t34).toNat)
    case atStart => exact ⟨0, 0, Nat.zero_le _, rfl, rfl, Int.le_refl _, by omega, Lib.hid (by rw [List.drop_zero]), Lib.hid ((Below.refl _ _).alloc (Nat.le_refl _) _), Lib.hid (heap_alloc_new w _)⟩
    case round =>
      obtain ⟨k, f, hk1, rfl, rfl, hf0, hf1, HB, HBEL, HBX⟩ := hrel
      by_cases hlt : k < nk
      · obtain ⟨⟨z1, z2⟩, hz⟩ : ∃ z, Z[k]? = some z := ⟨_, List.getElem?_eq_getElem (by rw [HN.out]; exact hlt)⟩
        obtain ⟨⟨hz1a, hz1b⟩, hz2a, hz2b⟩ := HZ.out _ (List.mem_of_getElem? hz)
        simp only at hz1a hz1b hz2a hz2b
        obtain ⟨ad, rfl⟩ : ∃ ad, A2 = some ad := by
          obtain ⟨ad, e, _⟩ := HR.out 0 _ (List.getElem?_eq_getElem (by rw [bksZ_length, HN.out]; omega))
          exact ⟨ad, e⟩
        have HEL : Hid (∀ j v, [Value.int .i64 z1, Value.int .i64 z2][j]? = some v → wr.cell? ((ad.add (k * 2)).add j) = some v) := by
          have := (HR.out.below HBEL.out HHI.out).elem (k := 2) k
          rw [bksZ_at Z k _ hz] at this
          exact this
        have hcs := three_cells HBX.out
        have c0 := hcs.1
        have c1' := hcs.2.1
        have c2' := hcs.2.2
        have HD : Hid (blkB (64 * p) f (Z.drop k) = (decide (f ≤ z1 ∧ z1 % 8 = 0 ∧ 8 ≤ z2 ∧ z2 % 8 = 0 ∧ z2 ≤ ((64 * p : Nat) : Int) - z1) && blkB (64 * p) (z1 + z2) (Z.drop (k + 1)))) := by
          show _ = _
          rw [← List.getElem_cons_drop (by rw [HN.out]; exact hlt), (List.getElem?_eq_some_iff.1 hz).2]
          rfl
        clear hz hcs c0 c1' c2'
        go_upto_region 8 with (first | refine wpList_load_at rfl 62 _ rfl (ad.add (k * 2)) rfl [.int .i64 z1, .int .i64 z2] _ HEL.out Try.underlying62 rfl (by kernel_rfl) ?_)
        have HX := Lib.hid (old_alloc HBX.out (.cells #[.int .i64 z1, .int .i64 z2] 62))
        have HY := Lib.hid (heap_alloc_new wr (.cells #[.int .i64 z1, .int .i64 z2] 62))
        have HB2 := Lib.hid (HBEL.out.alloc HBEL.out.size (.cells #[.int .i64 z1, .int .i64 z2] 62))
        generalize wr.alloc (.cells #[.int .i64 z1, .int .i64 z2] 62) = w5 at HX HY HB2 ⊢
        generalize wr.heap.size = b5 at HY ⊢
        obtain ⟨c0, c1', c2'⟩ := three_cells HX.out
        obtain ⟨d0, d1⟩ := two_cells HY.out
        by_cases q1 : z1 < f
        · have HV : Hid (blkB (64 * p) 0 Z = false) := by show _ = _; rw [HB.out, HD.out, decide_eq_false (by omega), Bool.false_and]
          go_wp2
          go_ret
          exact ⟨by rw [HV.out]; rfl, HB2.out⟩
        · by_cases q2 : z1 % 8 = 0
          · by_cases q3 : z2 < 8
            · have HV : Hid (blkB (64 * p) 0 Z = false) := by show _ = _; rw [HB.out, HD.out, decide_eq_false (by omega), Bool.false_and]
              go_wp2
              go_ret
              exact ⟨by rw [HV.out]; rfl, HB2.out⟩
            · by_cases q4 : z2 % 8 = 0
              · by_cases q5 : (64 * p : Int) - z1 < z2
                · have HV : Hid (blkB (64 * p) 0 Z = false) := by show _ = _; rw [HB.out, HD.out, decide_eq_false (by omega), Bool.false_and]
                  go_wp2
                  go_ret
                  exact ⟨by rw [HV.out]; rfl, HB2.out⟩
                · have HV : Hid (blkB (64 * p) 0 Z = blkB (64 * p) (z1 + z2) (Z.drop (k + 1))) := by show _ = _; rw [HB.out, HD.out, decide_eq_true (by omega), Bool.true_and]
                  go_wp2_with fail
                  refine (end_any z1 z2 w5 (by omega) (by omega) (by omega)).mono ?_
                  rintro e w6 ⟨rfl, hb6⟩
                  have HB6 := Lib.hid (HB2.out.trans (hb6.mono HB2.out.size))
                  have HX6 := Lib.hid (old_below HX.out hb6 (row_lt HX.out))
                  clear hb6 c0 c1' c2' d0 d1
                  go_wp2
                  go_roundw
                  case rel => exact ⟨k + 1, z1 + z2, by omega, by go_num, rfl, by omega, by omega, HV, HB6, HX6⟩
                  case measure => simp [intOf]; omega
              · have HV : Hid (blkB (64 * p) 0 Z = false) := by show _ = _; rw [HB.out, HD.out, decide_eq_false (by omega), Bool.false_and]
                go_wp2
                go_ret
                exact ⟨by rw [HV.out]; rfl, HB2.out⟩
          · have HV : Hid (blkB (64 * p) 0 Z = false) := by show _ = _; rw [HB.out, HD.out, decide_eq_false (by omega), Bool.false_and]
            go_wp2
            go_ret
            exact ⟨by rw [HV.out]; rfl, HB2.out⟩
      · obtain rfl : k = nk := by omega
        have HV : Hid (blkB (64 * p) 0 Z = true) := by show _ = _; rw [HB.out, List.drop_of_length_le (by rw [HN.out]; exact Nat.le_refl _)]; rfl
        go_wp2
        go_ret
        exact ⟨by rw [HV.out]; rfl, HBEL.out⟩
  · have HV : Hid (rightB nb nd Z = false) := by
      show _ = _
      unfold rightB
      rw [decide_eq_false hok, Bool.false_and]
    have HBX := Lib.hid ((Below.refl _ _).alloc (Nat.le_refl w.heap.size) (.cells #[.slice A1 nb c1, .slice A2 nk c2, .slice A3 nd c3] 29))
    rw [HV.out]
    by_cases q1 : nb % 64 = 0
    · obtain ⟨p, hp⟩ : ∃ p, nb / 64 = p := ⟨_, rfl⟩
      have hnb : nb = 64 * p := by omega
      subst hnb
      rw [hp] at hok
      by_cases q2 : p < 1
      · clear hok
        go_enter Try.func15, Try.ntmps15
        go_wp2
        go_ret
        exact ⟨rfl, HBX.out⟩
      · by_cases q3 : 64 < p
        · clear hok
          go_enter Try.func15, Try.ntmps15
          go_wp2
          go_ret
          exact ⟨rfl, HBX.out⟩
        · rcases Nat.lt_or_gt_of_ne (show nd ≠ p from by omega) with q4 | q4
          · have q5 : ((nd : Int) != (p : Int)) = true := by simp [bne]; omega
            clear hok
            go_enter Try.func15, Try.ntmps15
            go_wp2
            go_ret
            exact ⟨rfl, HBX.out⟩
          · have q5 : ((nd : Int) != (p : Int)) = true := by simp [bne]; omega
            clear hok
            go_enter Try.func15, Try.ntmps15
            go_wp2
            go_ret
            exact ⟨rfl, HBX.out⟩
    · have q5 : (nb : Int) % 64 ≠ 0 := by omega
      go_enter Try.func15, Try.ntmps15
      go_wp2
      go_ret
      exact ⟨rfl, HBX.out⟩
end Go.Proofs.Ytagajijjcjfopaa
