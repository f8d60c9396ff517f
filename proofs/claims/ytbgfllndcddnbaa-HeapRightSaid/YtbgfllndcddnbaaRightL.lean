/-
  The law HeapRight: every heap that can be read. No condition beyond that.
-/
import Derived.Test.YtbgfllndcddnbaaLivesH
namespace Go.Proofs.Ytbgfllndcddnbaa
open Go.RowKit

/-- what a block must be, behind place f -/
theorem blk_step {T : Nat} {f z1 z2 : Int} {r : List (Int × Int)} : blkB T f ((z1, z2) :: r) = (decide (f ≤ z1 ∧ z1 % 8 = 0 ∧ 8 ≤ z2 ∧ z2 % 8 = 0 ∧ z2 ≤ (T : Int) - z1) && blkB T (z1 + z2) r) := rfl
set_option maxRecDepth 100000 in
set_option maxHeartbeats 4000000 in
theorem rightlaw_any (A1 A2 A3 : Option Addr) (nb nk nd c1 c2 c3 : Nat) (Z : List (Int × Int)) (lo hi : Nat) (w : World) (h : Rd w lo hi A2 (bksZ Z)) (hhi : hi ≤ w.heap.size) (hn : Z.length = nk) (hz : ∀ b ∈ Z, I64 b.1 ∧ I64 b.2) (hb : nb ≤ maxLen) (hk : nk ≤ maxLen) (hd : nd ≤ maxLen) :
    Calls Try.prog 6 #[.agg #[.slice A1 nb c1, .slice A2 nk c2, .slice A3 nd c3]] w fun e w' => e = .returned (.bool true) ∧ Below w.heap.size w w' := by
  have HR := Lib.hid h
  have HHI := Lib.hid hhi
  have HN := Lib.hid hn
  have HZ := Lib.hid hz
  have HNB := Lib.hid hb
  have HND := Lib.hid hd
  have hb2 : nb ≤ 9223372036854775807 := by unfold maxLen at hb; omega
  have hk2 : nk ≤ 9223372036854775807 := by unfold maxLen at hk; omega
  have hd2 : nd ≤ 9223372036854775807 := by unfold maxLen at hd; omega
  have HB1 := Lib.hid ((Below.refl w.heap.size w).alloc (Nat.le_refl _) (.cells #[.slice A1 nb c1, .slice A2 nk c2, .slice A3 nd c3] 29))
  have HG1 := Lib.hid (heap_alloc_new w (.cells #[.slice A1 nb c1, .slice A2 nk c2, .slice A3 nd c3] 29))
  clear h hhi hn hz hb hk hd
  by_cases s : nb ≤ 5000 ∧ nk ≤ 60 ∧ nd ≤ 100
  · obtain ⟨s1, s2, s3⟩ := s
    clear hb2 hk2 hd2
    go_enter Try.func6, Try.ntmps6
    go_wp2_with fail
    refine (lives_any _).mono ?_
    rintro e w2 ⟨rfl, hb⟩
    have HB2 := Lib.hid (HB1.out.trans (hb.mono HB1.out.size))
    have HX2 := Lib.hid (old_below HG1.out hb (row_lt HG1.out))
    clear hb
    obtain ⟨x0, x1, x2⟩ := three_cells HX2.out
    have HWT : Hid (rightB nb nd Z = (decide (nb % 64 = 0 ∧ 1 ≤ nb / 64 ∧ nb / 64 ≤ 64 ∧ nd = nb / 64) && blkB nb 0 Z)) := rfl
    obtain ⟨wt, hwt⟩ : ∃ wt : Bool, decide (nb % 64 = 0 ∧ 1 ≤ nb / 64 ∧ nb / 64 ≤ 64 ∧ nd = nb / 64) = wt := ⟨_, rfl⟩
    rw [hwt] at HWT
    obtain ⟨p, hp⟩ : ∃ p : Nat, (nb : Int) / 64 = (p : Int) := ⟨nb / 64, by omega⟩
    go_upto_region 4 with (fail)
    go_cut [4] (fun t4 wx => t4 = .bool wt ∧ w2 = wx)
    case first =>
      by_cases k1 : nb % 64 = 0
      · have k1' : (nb : Int) % 64 = 0 := by omega
        by_cases k2 : 1 ≤ p
        · by_cases k3 : p ≤ 64
          · by_cases k4 : nd = p
            · obtain rfl : wt = true := by rw [← hwt]; exact decide_eq_true ⟨k1, by omega, by omega, by omega⟩
              have k5 : ((nd : Int) == (p : Int)) = true := by rw [k4]; simp
              clear hwt k1 hp k4
              go_wp2
              go_meet
              case rel => exact ⟨rfl, rfl⟩
            · obtain rfl : wt = false := by rw [← hwt]; exact decide_eq_false fun h => k4 (by omega)
              have k5 : ((nd : Int) == (p : Int)) = false := by simp; omega
              clear hwt k1 hp k4
              go_wp2
              go_meet
              case rel => exact ⟨rfl, rfl⟩
          · obtain rfl : wt = false := by rw [← hwt]; exact decide_eq_false fun h => k3 (by omega)
            clear hwt k1 hp
            go_wp2
            go_meet
            case rel => exact ⟨rfl, rfl⟩
        · obtain rfl : wt = false := by rw [← hwt]; exact decide_eq_false fun h => k2 (by omega)
          clear hwt k1 hp
          go_wp2
          go_meet
          case rel => exact ⟨rfl, rfl⟩
      · obtain rfl : wt = false := by rw [← hwt]; exact decide_eq_false fun h => k1 h.1
        have k5 : ((nb : Int) % 64 == 0) = false := by simp; omega
        clear hwt hp
        go_wp2
        go_meet
        case rel => exact ⟨rfl, rfl⟩
    case rest =>
      obtain ⟨rfl, rfl⟩ := hcut
      clear hp
      go_wp2
      go_loopw [55, 4] (fun t55 t4 wr => ∃ (k : Nat) (wb : Bool) (f : Int), k ≤ nk ∧ t55 = .int .i64 (k : Int) ∧ t4 = .bool wb ∧ 0 ≤ f ∧ f ≤ (nb : Int) ∧ Hid (wb = true → rightB nb nd Z = blkB nb f (Z.drop k)) ∧ Hid (wb = false → rightB nb nd Z = false) ∧ Hid (0 < k → wb = true → ∃ z, Z[k - 1]? = some z ∧ f = z.1 + z.2) ∧ Hid (k = 0 → f = 0) ∧ Hid (Below w.heap.size w wr) ∧ Hid (wr.heap[w.heap.size]? = some (.cells #[.slice A1 nb c1, .slice A2 nk c2, .slice A3 nd c3] 29 (0, 0)))) (fun t55 _ _ => nk - (intOf t55).toNat)
      case atStart => exact ⟨0, wt, 0, Nat.zero_le _, rfl, rfl, Int.le_refl _, by omega, Lib.hid (fun h => by rw [HWT.out, h, Bool.true_and, List.drop_zero]), Lib.hid (fun h => by rw [HWT.out, h, Bool.false_and]), Lib.hid (fun h => by omega), Lib.hid (fun _ => rfl), HB2, HX2⟩
      case round =>
        obtain ⟨k, wb, f, hk1, rfl, rfl, hf0, hf1, HT, HF, HPV, HZ0, HBEL, HBX⟩ := hrel
        clear x0 x1 x2
        by_cases hlt : k < nk
        · obtain ⟨⟨z1, z2⟩, hz⟩ : ∃ z, Z[k]? = some z := ⟨_, List.getElem?_eq_getElem (by rw [HN.out]; exact hlt)⟩
          obtain ⟨⟨hz1a, hz1b⟩, hz2a, hz2b⟩ := HZ.out _ (List.mem_of_getElem? hz)
          simp only at hz1a hz1b hz2a hz2b
          obtain ⟨ad, rfl⟩ : ∃ ad, A2 = some ad := by
            obtain ⟨ad, e, _⟩ := HR.out 0 _ (List.getElem?_eq_getElem (by rw [bksZ_length, HN.out]; omega))
            exact ⟨ad, e⟩
          have HEL : Hid (∀ j v, [Value.int .i64 z1, Value.int .i64 z2][j]? = some v → wr.cell? ((ad.add (k * 2)).add j) = some v) := by
            have := (HR.out.below HBEL.out HHI.out).elem (k := 2) k
            rw [bksZ_at Z k _ hz] at this
            exact this
          have HDR : Hid (Z.drop k = (z1, z2) :: Z.drop (k + 1)) := by
            show _ = _
            rw [← List.getElem_cons_drop (by rw [HN.out]; exact hlt), (List.getElem?_eq_some_iff.1 hz).2]
          have HD : Hid (blkB nb f (Z.drop k) = (decide (f ≤ z1 ∧ z1 % 8 = 0 ∧ 8 ≤ z2 ∧ z2 % 8 = 0 ∧ z2 ≤ (nb : Int) - z1) && blkB nb (z1 + z2) (Z.drop (k + 1)))) := by
            show _ = _
            rw [HDR.out, blk_step]
          have HZK := Lib.hid hz
          clear hz
          go_upto_region 8 with (first | refine wpList_load_at rfl 62 _ rfl (ad.add (k * 2)) rfl [.int .i64 z1, .int .i64 z2] _ HEL.out Try.underlying62 rfl (by kernel_rfl) ?_)
          have HX := Lib.hid (old_alloc HBX.out (.cells #[.int .i64 z1, .int .i64 z2] 62))
          have HY := Lib.hid (heap_alloc_new wr (.cells #[.int .i64 z1, .int .i64 z2] 62))
          have HB2 := Lib.hid (HBEL.out.alloc HBEL.out.size (.cells #[.int .i64 z1, .int .i64 z2] 62))
          have HRX := Lib.hid ((HR.out.below HBEL.out HHI.out).alloc (Nat.le_trans HHI.out HBEL.out.size) (.cells #[.int .i64 z1, .int .i64 z2] 62))
          generalize wr.alloc (.cells #[.int .i64 z1, .int .i64 z2] 62) = w5 at HX HY HB2 HRX ⊢
          generalize wr.heap.size = b5 at HY ⊢
          obtain ⟨c0, c1', c2'⟩ := three_cells HX.out
          obtain ⟨d0, d1⟩ := two_cells HY.out
          cases wb
          · have hv := HF.out rfl
            have HV := Lib.hid hv
            clear hv
            go_wp2
            go_roundw
            case rel => exact ⟨k + 1, false, 0, by omega, by go_num, rfl, Int.le_refl _, by omega, Lib.hid (fun h => by cases h), Lib.hid (fun _ => HV.out), Lib.hid (fun _ h => by cases h), Lib.hid (fun h => by omega), HB2, HX⟩
            case measure => simp [intOf]; omega
          · by_cases q1 : z1 < 0
            · have HV : Hid (rightB nb nd Z = false) := by show _ = _; rw [HT.out rfl, HD.out, decide_eq_false (by omega), Bool.false_and]
              go_wp2
              go_roundw
              case rel => exact ⟨k + 1, false, 0, by omega, by go_num, rfl, Int.le_refl _, by omega, Lib.hid (fun h => by cases h), Lib.hid (fun _ => HV.out), Lib.hid (fun _ h => by cases h), Lib.hid (fun h => by omega), HB2, HX⟩
              case measure => simp [intOf]; omega
              
            · by_cases q2 : z1 % 8 = 0
              · by_cases q3 : z2 < 8
                · have HV : Hid (rightB nb nd Z = false) := by show _ = _; rw [HT.out rfl, HD.out, decide_eq_false (by omega), Bool.false_and]
                  go_wp2
                  go_roundw
                  case rel => exact ⟨k + 1, false, 0, by omega, by go_num, rfl, Int.le_refl _, by omega, Lib.hid (fun h => by cases h), Lib.hid (fun _ => HV.out), Lib.hid (fun _ h => by cases h), Lib.hid (fun h => by omega), HB2, HX⟩
                  case measure => simp [intOf]; omega
                  
                · by_cases q4 : z2 % 8 = 0
                  · by_cases q5 : (nb : Int) < z2
                    · have HV : Hid (rightB nb nd Z = false) := by show _ = _; rw [HT.out rfl, HD.out, decide_eq_false (by omega), Bool.false_and]
                      go_wp2
                      go_roundw
                      case rel => exact ⟨k + 1, false, 0, by omega, by go_num, rfl, Int.le_refl _, by omega, Lib.hid (fun h => by cases h), Lib.hid (fun _ => HV.out), Lib.hid (fun _ h => by cases h), Lib.hid (fun h => by omega), HB2, HX⟩
                      case measure => simp [intOf]; omega
                      
                    · by_cases q6 : (nb : Int) - z2 < z1
                      · have HV : Hid (rightB nb nd Z = false) := by show _ = _; rw [HT.out rfl, HD.out, decide_eq_false (by omega), Bool.false_and]
                        go_wp2
                        go_roundw
                        case rel => exact ⟨k + 1, false, 0, by omega, by go_num, rfl, Int.le_refl _, by omega, Lib.hid (fun h => by cases h), Lib.hid (fun _ => HV.out), Lib.hid (fun _ h => by cases h), Lib.hid (fun h => by omega), HB2, HX⟩
                        case measure => simp [intOf]; omega
                        
                      · by_cases hk0 : k = 0
                        · have hf2 := HZ0.out hk0
                          have HV : Hid (rightB nb nd Z = blkB nb (z1 + z2) (Z.drop (k + 1))) := by show _ = _; rw [HT.out rfl, HD.out, decide_eq_true (by omega), Bool.true_and]
                          subst hk0
                          clear hf2
                          go_wp2
                          go_roundw
                          case rel => exact ⟨1, true, z1 + z2, by omega, by go_num, rfl, by omega, by omega, Lib.hid (fun _ => HV.out), Lib.hid (fun h => by cases h), Lib.hid (fun _ _ => ⟨(z1, z2), HZK.out, rfl⟩), Lib.hid (fun h => by omega), HB2, HX⟩
                          case measure => simp [intOf]; omega
                        · obtain ⟨j, rfl⟩ : ∃ j, k = j + 1 := ⟨k - 1, by omega⟩
                          obtain ⟨⟨y1, y2⟩, hy, hfy⟩ := HPV.out (by omega) rfl
                          simp only [Nat.add_sub_cancel] at hy hfy
                          obtain ⟨⟨hy1a, hy1b⟩, hy2a, hy2b⟩ := HZ.out _ (List.mem_of_getElem? hy)
                          simp only at hy1a hy1b hy2a hy2b
                          have hel := HRX.out.elem (k := 2) j
                          rw [bksZ_at Z j _ hy] at hel
                          have e0 : w5.cell? (ad.add (j * 2)) = some (.int .i64 y1) := by have := hel 0 (.int .i64 y1) rfl; simpa [Addr.add] using this
                          have e1 : w5.cell? ⟨(ad.add (j * 2)).block, (ad.add (j * 2)).off + 1, none⟩ = some (.int .i64 y2) := by have := hel 1 (.int .i64 y2) rfl; rwa [show (ad.add (j * 2)).add 1 = ⟨(ad.add (j * 2)).block, (ad.add (j * 2)).off + 1, none⟩ from rfl] at this
                          have hwr : IntKind.i64.wrap (((j + 1 : Nat) : Int) - 1) = (j : Int) := by rw [IntWalk.i64_in _ ⟨by omega, by omega⟩]; omega
                          have hws : IntKind.i64.wrap (y1 + y2) = y1 + y2 := IntWalk.i64_in _ ⟨by omega, by omega⟩
                          clear hel
                          have hwr2 : IntKind.i64.wrap ((j : Int) + 1 - 1) = (j : Int) := by rw [IntWalk.i64_in _ ⟨by omega, by omega⟩]; omega
                          have hwr3 : IntKind.i64.wrap (j : Int) = (j : Int) := IntWalk.i64_in _ ⟨by omega, by omega⟩
                          have hj1 : (j : Int) < (nk : Int) := by omega
                          have HYY := Lib.hid hy
                          clear hy
                          by_cases q7 : f ≤ z1
                          · have HV : Hid (rightB nb nd Z = blkB nb (z1 + z2) (Z.drop (j + 1 + 1))) := by show _ = _; rw [HT.out rfl, HD.out, decide_eq_true (by omega), Bool.true_and]
                            have q8 : y1 + y2 ≤ z1 := by omega
                            have hfa : 0 ≤ z1 + z2 ∧ z1 + z2 ≤ (nb : Int) := ⟨by omega, by omega⟩
                            have HFA := Lib.hid hfa
                            clear hfa hfy
                            go_wp2
                            go_quiet (fail)
                            rename_i nq
                            have HB3 : Hid (Below w.heap.size w (w5.drewN nq)) := below_drewN' HB2.out nq
                            have HX3 : Hid ((w5.drewN nq).heap[w.heap.size]? = some (.cells #[.slice A1 nb c1, .slice (some ad) nk c2, .slice A3 nd c3] 29 (0, 0))) := HX.out
                            clear hwr hwr2 hwr3 hws e0 e1 c0 c1' c2' d0 d1
                            generalize w5.drewN nq = w7 at HB3 HX3 ⊢
                            go_wp2
                            go_roundw
                            case rel => exact ⟨j + 1 + 1, true, z1 + z2, by omega, by go_num, by simp [q8], HFA.out.1, HFA.out.2, Lib.hid (fun _ => HV.out), Lib.hid (fun h => by cases h), Lib.hid (fun _ _ => ⟨(z1, z2), HZK.out, rfl⟩), Lib.hid (fun h => by omega), HB3, HX3⟩
                            case measure => simp [intOf]; omega
                          · have HV : Hid (rightB nb nd Z = false) := by show _ = _; rw [HT.out rfl, HD.out, decide_eq_false (by omega), Bool.false_and]
                            have q8 : z1 < y1 + y2 := by omega
                            have q9 : ¬ (y1 + y2 ≤ z1) := by omega
                            clear hfy
                            go_wp2
                            go_quiet (fail)
                            rename_i nq
                            have HB3 : Hid (Below w.heap.size w (w5.drewN nq)) := below_drewN' HB2.out nq
                            have HX3 : Hid ((w5.drewN nq).heap[w.heap.size]? = some (.cells #[.slice A1 nb c1, .slice (some ad) nk c2, .slice A3 nd c3] 29 (0, 0))) := HX.out
                            clear hwr hwr2 hwr3 hws e0 e1 c0 c1' c2' d0 d1
                            generalize w5.drewN nq = w7 at HB3 HX3 ⊢
                            go_wp2
                            go_roundw
                            case rel => exact ⟨j + 1 + 1, false, 0, by omega, by go_num, by simp [q9], Int.le_refl _, by omega, Lib.hid (fun h => by cases h), Lib.hid (fun _ => HV.out), Lib.hid (fun _ h => by cases h), Lib.hid (fun h => by omega), HB3, HX3⟩
                            case measure => simp [intOf]; omega
                  · have HV : Hid (rightB nb nd Z = false) := by show _ = _; rw [HT.out rfl, HD.out, decide_eq_false (by omega), Bool.false_and]
                    go_wp2
                    go_roundw
                    case rel => exact ⟨k + 1, false, 0, by omega, by go_num, rfl, Int.le_refl _, by omega, Lib.hid (fun h => by cases h), Lib.hid (fun _ => HV.out), Lib.hid (fun _ h => by cases h), Lib.hid (fun h => by omega), HB2, HX⟩
                    case measure => simp [intOf]; omega
                    
              · have HV : Hid (rightB nb nd Z = false) := by show _ = _; rw [HT.out rfl, HD.out, decide_eq_false (by omega), Bool.false_and]
                go_wp2
                go_roundw
                case rel => exact ⟨k + 1, false, 0, by omega, by go_num, rfl, Int.le_refl _, by omega, Lib.hid (fun h => by cases h), Lib.hid (fun _ => HV.out), Lib.hid (fun _ h => by cases h), Lib.hid (fun h => by omega), HB2, HX⟩
                case measure => simp [intOf]; omega
                
        · obtain rfl : k = nk := by omega
          have HV : Hid (rightB nb nd Z = wb) := by
            show _ = _
            cases wb
            · exact HF.out rfl
            · rw [HT.out rfl, List.drop_of_length_le (by rw [HN.out]; exact Nat.le_refl _)]
              rfl
          obtain ⟨c0, c1', c2'⟩ := three_cells HBX.out
          go_wp2_with fail
          refine (right_any A1 A2 A3 nb k nd c1 c2 c3 Z lo hi wr (HR.out.below HBEL.out HHI.out) (Nat.le_trans HHI.out HBEL.out.size) HN.out HZ.out HNB.out (by omega) HND.out).mono ?_
          rw [HV.out]
          rintro e w6 ⟨rfl, hb6⟩
          have HB6 := Lib.hid (HBEL.out.trans (hb6.mono HBEL.out.size))
          clear hb6 c0 c1' c2'
          go_wp2
          go_ret
          exact ⟨by simp, HB6.out⟩
  · obtain ⟨x0, x1, x2⟩ := three_cells HG1.out
    by_cases s1 : 5000 < nb
    · go_enter Try.func6, Try.ntmps6
      go_wp2_with fail
      refine (lives_any _).mono ?_
      rintro e w2 ⟨rfl, hb⟩
      have HB2 := Lib.hid (HB1.out.trans (hb.mono HB1.out.size))
      obtain ⟨z0, z1, z2⟩ := three_cells (old_below HG1.out hb (row_lt HG1.out))
      clear hb
      go_wp2_with fail
      refine (lives_any _).mono ?_
      rintro e w3 ⟨rfl, hb⟩
      have HB3 := Lib.hid (HB2.out.trans (hb.mono HB2.out.size))
      clear hb z0 z1 z2
      go_wp2
      go_ret
      exact ⟨rfl, HB3.out⟩
    · by_cases s2 : 60 < nk
      · go_enter Try.func6, Try.ntmps6
        go_wp2_with fail
        refine (lives_any _).mono ?_
        rintro e w2 ⟨rfl, hb⟩
        have HB2 := Lib.hid (HB1.out.trans (hb.mono HB1.out.size))
        obtain ⟨z0, z1, z2⟩ := three_cells (old_below HG1.out hb (row_lt HG1.out))
        clear hb
        go_wp2_with fail
        refine (lives_any _).mono ?_
        rintro e w3 ⟨rfl, hb⟩
        have HB3 := Lib.hid (HB2.out.trans (hb.mono HB2.out.size))
        clear hb z0 z1 z2
        go_wp2
        go_ret
        exact ⟨rfl, HB3.out⟩
      · have s3 : 100 < nd := by omega
        clear s
        go_enter Try.func6, Try.ntmps6
        go_wp2_with fail
        refine (lives_any _).mono ?_
        rintro e w2 ⟨rfl, hb⟩
        have HB2 := Lib.hid (HB1.out.trans (hb.mono HB1.out.size))
        obtain ⟨z0, z1, z2⟩ := three_cells (old_below HG1.out hb (row_lt HG1.out))
        clear hb
        go_wp2_with fail
        refine (lives_any _).mono ?_
        rintro e w3 ⟨rfl, hb⟩
        have HB3 := Lib.hid (HB2.out.trans (hb.mono HB2.out.size))
        clear hb z0 z1 z2
        go_wp2
        go_ret
        exact ⟨rfl, HB3.out⟩
end Go.Proofs.Ytbgfllndcddnbaa
