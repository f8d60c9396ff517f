/-
  dgram.openEcho: what it opens of any bytes. Every slice of at most 1000 bytes that can be read. No condition.
-/
import Derived.Test.YthkpkhhnlenioaaBuildM
import Derived.BigQuiet
import Derived.Lib.QuietBelow
namespace Go.Proofs.Ythkpkhhnlenioaa
open Go.RowKit

/-- what opening leaves -/
def EcO (w : World) (r : Ec × Int) (e : Ending) (w' : World) : Prop :=
  ∃ m, e = .returned (.tuple #[m, .int .i64 r.2]) ∧ Below w.heap.size w w' ∧ (r.2 = 0 → ∃ cs, m = ecM cs ∧ EcC w' w.heap.size w'.heap.size cs r.1) ∧ (r.2 ≠ 0 → m = .nilIface)
theorem ecO_none {w w' : World} {r : Ec × Int} {z : Int} (h : r = (Ec.zero, z)) (hz : z ≠ 0) (hb : Below w.heap.size w w') : EcO w r (.returned (.tuple #[.nilIface, .int .i64 z])) w' := by
  subst h
  exact ⟨_, rfl, hb, fun h => absurd h hz, fun _ => rfl⟩
theorem split_cut5 (l : List UInt8) (h : l.length < 8) : splitS l [1, 1, 2, 2, 2] = ([], 6) := by
  have e1 : (1 : Int).toNat = 1 := rfl
  have e2 : (2 : Int).toNat = 2 := rfl
  unfold splitS
  simp only [splitGo, List.length_drop, e1, e2]
  repeat' split
  all_goals first | rfl | (exfalso; omega)
theorem split_fit5 (b0 b1 b2 b3 b4 b5 b6 b7 : UInt8) (r : List UInt8) : splitS (b0 :: b1 :: b2 :: b3 :: b4 :: b5 :: b6 :: b7 :: r) [1, 1, 2, 2, 2] = ([[b0], [b1], [b2, b3], [b4, b5], [b6, b7], r], 0) := by
  have e1 : (1 : Int).toNat = 1 := rfl
  have e2 : (2 : Int).toNat = 2 := rfl
  unfold splitS
  simp only [splitGo, List.length_drop, List.length_cons, e1, e2]
  repeat rw [if_neg (by omega)]
  rfl
theorem eight (l : List UInt8) (h : 8 ≤ l.length) : ∃ b0 b1 b2 b3 b4 b5 b6 b7 r, l = b0 :: b1 :: b2 :: b3 :: b4 :: b5 :: b6 :: b7 :: r :=
  match l, h with
  | b0 :: b1 :: b2 :: b3 :: b4 :: b5 :: b6 :: b7 :: r, _ => ⟨b0, b1, b2, b3, b4, b5, b6, b7, r, rfl⟩
theorem word_at (A : Option Addr) (x y : UInt8) (c lo hi : Nat) (w : World) (h : Rd w lo hi A (cells [x, y])) :
    Calls Try.prog 31 #[.slice A 2 c] w fun e w' => e = .returned (.int .u16 ((256 * x.toNat + y.toNat : Nat) : Int)) ∧ w' = w :=
  (dword_any A x y c lo hi w h).mono fun _ _ ⟨h1, h2⟩ => ⟨h1, h2.symm⟩
/-- the cells of parts -/
theorem part_cell {w : World} {B : Nat} {A : Option Addr} {n c : Nat} {vs : List Value} {ps : List (List UInt8)} (hr : w.ownsRow B 23 1 (.slice A n c) n vs) (hp : Parts w B vs ps) (i : Nat) (p : List UInt8) (hi : ps[i]? = some p) :
    ∃ g A' c', A = some ⟨g, 0, none⟩ ∧ w.cell? ⟨g, i, none⟩ = some (.slice A' p.length c') ∧ w.ownsRow B 5 1 (.slice A' p.length c') p.length (cells p) := by
  obtain ⟨A', c', h1, h2⟩ := hp.2 i p hi
  obtain ⟨g, e, _, _, hc⟩ := own_at hr h1
  exact ⟨g, A', c', e, hc, h2⟩

set_option maxRecDepth 100000 in
set_option maxHeartbeats 4000000 in
theorem oec_any (A : Option Addr) (l : List UInt8) (n c lo hi : Nat) (w : World) (hr : Rd w lo hi A (cells l)) (hn : l.length = n) (hc : n ≤ c) (hm : c ≤ maxLen) (hhi : hi ≤ w.heap.size) (hl : n ≤ 1000) :
    Calls Try.prog 21 #[.slice A n c] w (EcO w (ecOpen l)) := by
  have hsp := split_any A (some ⟨w.heap.size, 0, none⟩) l [1, 1, 2, 2, 2] c 5 0 (w.heap.size + 1) (w.alloc (.cells #[.int .i64 1, .int .i64 1, .int .i64 2, .int .i64 2, .int .i64 2] 3)) ((hr.alloc hhi _).wide (Nat.zero_le _) (by omega)) ((rd_new w [.int .i64 1, .int .i64 1, .int .i64 2, .int .i64 2, .int .i64 2] 3 (0, 0)).wide (Nat.zero_le _) (Nat.le_refl _)) (by simp) (by omega) (by simp) (by omega) hm
  rw [hn] at hsp
  have HB := Lib.hid ((Below.refl w.heap.size w).alloc (Nat.le_refl _) (.cells #[.int .i64 1, .int .i64 1, .int .i64 2, .int .i64 2, .int .i64 2] 3))
  by_cases h8 : n < 8
  · rw [split_cut5 l (by omega)] at hsp
    have HE : Hid (ecOpen l = (Ec.zero, 6)) := by show _ = _; unfold ecOpen; rw [if_pos (by omega)]
    have HSP := Lib.hid hsp
    clear hsp hr hn
    go_enter Try.func21, Try.ntmps21
    go_wp2_with fail
    refine HSP.out.mono ?_
    rintro e w1 ⟨A1, c1, vs, rfl, _, _, hb1⟩
    have HB1 := Lib.hid (HB.out.trans (hb1.mono HB.out.size))
    clear hb1
    go_wp2
    go_ret2
    exact ecO_none HE.out (by decide) HB1.out
  · obtain ⟨b0, b1, b2, b3, b4, b5, b6, b7, r, hle⟩ := eight l (by omega)
    have hfit := split_fit5 b0 b1 b2 b3 b4 b5 b6 b7 r
    rw [← hle] at hfit
    rw [hfit] at hsp
    have HSP := Lib.hid hsp
    have HR := Lib.hid hr
    have HHI := Lib.hid hhi
    have HN := Lib.hid hn
    have HE : Hid (ecOpen l = if sumL l ≠ 65535 then (Ec.zero, 8) else if (b0 ≠ 0 ∧ b0 ≠ 8) ∨ b1 ≠ 0 then (Ec.zero, 7) else (⟨decide (b0 = 0), 256 * b4.toNat + b5.toNat, 256 * b6.toNat + b7.toNat, r⟩, 0)) := by
      show _ = _
      unfold ecOpen
      rw [if_neg (by omega), hle]
      rfl
    have HRL : Hid (r.length ≤ 1000) := by show _ ≤ _; rw [hle] at hn; simp at hn; omega
    have hc63 := hc
    clear hsp hr hn hhi hfit
    go_enter Try.func21, Try.ntmps21
    go_wp2_with fail
    refine HSP.out.mono ?_
    rintro e w1 ⟨A1, c1, vs, rfl, hrow, hpts, hb1⟩
    obtain ⟨g, A0, c0, rfl, y0, o0⟩ := part_cell hrow hpts 0 [b0] rfl
    obtain ⟨g', A2, c2, e2, y1, o1⟩ := part_cell hrow hpts 1 [b1] rfl
    cases e2
    obtain ⟨g', A3, c3, e3, y3, o3⟩ := part_cell hrow hpts 3 [b4, b5] rfl
    cases e3
    obtain ⟨g', A4, c4, e4, y4, o4⟩ := part_cell hrow hpts 4 [b6, b7] rfl
    cases e4
    obtain ⟨g', A5, c5, e5, y5, o5⟩ := part_cell hrow hpts 5 r rfl
    cases e5
    obtain ⟨g0, rfl, _, _, z0⟩ := own_at o0 (j := 0) (u := .int .u8 (b0.toNat : Int)) rfl
    obtain ⟨g1, rfl, _, _, z1⟩ := own_at o1 (j := 0) (u := .int .u8 (b1.toNat : Int)) rfl
    have HB1 := Lib.hid (HB.out.trans (hb1.mono HB.out.size))
    have HO3 := Lib.hid o3
    have HO4 := Lib.hid o4
    have HO5 := Lib.hid o5
    have HWS : Hid (w.heap.size ≤ w1.heap.size) := HB1.out.size
    have hri := right_any ⟨w1.heap.size, 0, none⟩ [.slice A l.length c] [l] 1 w1.heap.size (w1.heap.size + 1) lo hi 1 l (w1.alloc (.cells #[.slice A l.length c] 23)) (rd_new w1 [.slice A l.length c] 23 (0, 0)) (pts_cons ((HR.out.below (B := w.heap.size) HB1.out HHI.out).alloc (Nat.le_trans HHI.out HB1.out.size) _) rfl pts_nil) rfl (by decide) (by intro p hp; simp at hp; subst hp; unfold maxLen; have := HN.out; omega) (by simp)
    rw [HN.out] at hri
    have HRI := Lib.hid hri
    clear hri hrow hpts hb1 o0 o1 o3 o4 o5
    go_wp2_with fail
    refine HRI.out.mono ?_
    rintro e w2 ⟨rfl, rfl⟩
    by_cases hs : sumL l = 65535
    · have q1 := beqT (show ((sumL l : Nat) : Int) = 65535 by omega)
      rw [q1]
      have HE2 : Hid (ecOpen l = if (b0 ≠ 0 ∧ b0 ≠ 8) ∨ b1 ≠ 0 then (Ec.zero, 7) else (⟨decide (b0 = 0), 256 * b4.toNat + b5.toNat, 256 * b6.toNat + b7.toNat, r⟩, 0)) := HE.out.trans (if_neg (fun h => h hs))
      have HB2 := Lib.hid (HB1.out.alloc HB1.out.size (.cells #[.slice A n c] 23))
      have hold : ∀ (p : Addr) (v : Value), w1.cell? p = some v → (w1.alloc (.cells #[.slice A n c] 23)).cell? p = some v := fun p v h => (((Below.refl w1.heap.size w1).alloc (Nat.le_refl _) (.cells #[.slice A n c] 23)).cell (p := p) (block_lt_of_cell h)).trans h
      replace y0 := hold _ _ y0
      replace y1 := hold _ _ y1
      replace y3 := hold _ _ y3
      replace y4 := hold _ _ y4
      replace y5 := hold _ _ y5
      replace z0 := hold _ _ z0
      replace z1 := hold _ _ z1
      have o3 := HO3.out.alloc (.cells #[.slice A n c] 23)
      have o4 := HO4.out.alloc (.cells #[.slice A n c] 23)
      have o5 := HO5.out.alloc (.cells #[.slice A n c] 23)
      generalize w1.alloc (.cells #[.slice A n c] 23) = w5 at HB2 y0 y1 y3 y4 y5 z0 z1 o3 o4 o5 ⊢
      have HR3 : Hid (Rd w5 0 w5.heap.size A3 (cells [b4, b5])) := (Rd.own o3).wide (Nat.zero_le _) (Nat.le_refl _)
      have HR4 : Hid (Rd w5 0 w5.heap.size A4 (cells [b6, b7])) := (Rd.own o4).wide (Nat.zero_le _) (Nat.le_refl _)
      have HR5 : Hid (Rd w5 w.heap.size w5.heap.size A5 (cells r)) := (Rd.own o5).wide (by simp) (Nat.le_refl _)
      have HC5 : Hid (r.length ≤ c5 ∧ c5 ≤ maxLen ∧ (A5 = none → c5 = 0)) := ⟨(own_cap o5).1, (own_cap o5).2, by
        rintro rfl
        rcases o5.2 with ⟨he, _⟩ | ⟨g, cap, cur, he, _⟩
        · injection he
        · cases he⟩
      have u4 := b4.toNat_lt
      have u5 := b5.toNat_lt
      have u6 := b6.toNat_lt
      have u7 := b7.toNat_lt
      clear hold o3 o4 o5 q1 hs HE HRI
      by_cases p0 : b0 = 0
      · have q0 := bneF (show (b0.toNat : Int) = 0 by rw [p0]; rfl)
        have q2 := beqT (show (b0.toNat : Int) = 0 by rw [p0]; rfl)
        by_cases p1 : b1 = 0
        · have q1 := bneF (show (b1.toNat : Int) = 0 by rw [p1]; rfl)
          have HE3 := Lib.hid (HE2.out.trans (if_neg (fun h => h.elim (fun q => q.1 p0) (fun q => q p1))))
          go_wp2_with fail
          go_quiet (fail)
          rename_i nq
          clear z0 z1 y0 y1
          go_wp2_with fail
          obtain ⟨w6, hw6⟩ : ∃ w6, w5.drewN nq = w6 := ⟨_, rfl⟩
          have HB3 : Hid (Below w.heap.size w w6) := by rw [← hw6]; exact below_drewN' HB2.out nq
          have hs6 : w6.heap.size = w5.heap.size := by rw [← hw6]; rfl
          have k3 := cell_regrown (show w6.cell? _ = _ from by rw [← hw6]; exact y3)
          have k4 := cell_regrown (show w6.cell? _ = _ from by rw [← hw6]; exact y4)
          have k5 := cell_regrown (show w6.cell? _ = _ from by rw [← hw6]; exact y5)
          have hr3 : Rd w6 0 w5.heap.size A3 (cells [b4, b5]) := by rw [← hw6]; exact HR3.out
          have hr4 : Rd w6 0 w5.heap.size A4 (cells [b6, b7]) := by rw [← hw6]; exact HR4.out
          have hr5 : Rd w6 w.heap.size w5.heap.size A5 (cells r) := by rw [← hw6]; exact HR5.out
          have hc3 := fun d os => Calls.regrown_of ((word_at A3 b4 b5 c3 _ _ _ (hr3.below (below_regrown w6 d os) (by omega))).mono fun _ _ ⟨h1, h2⟩ => ⟨h1, by rw [h2]; exact Below.refl _ _⟩)
          have hc4 := fun d os => Calls.regrown_of ((word_at A4 b6 b7 c4 _ _ _ (hr4.below (below_regrown w6 d os) (by omega))).mono fun _ _ ⟨h1, h2⟩ => ⟨h1, by rw [h2]; exact Below.refl _ _⟩)
          have HW3 := Lib.hid hc3
          have HW4 := Lib.hid hc4
          have HR6 := Lib.hid (And.intro hr5 hs6)
          rw [hw6]
          clear y3 y4 y5 hr3 hr4 hr5 hw6 hc3 hc4 hs6
          refine wp_region_quiet_below (by kernel_rfl) (by kernel_rfl) ?_
          repeat (first | go_big_quiet_step (first | (go_at_call_of 31 (Value.slice A3 2 c3); exact HW3.out _ _) | (go_at_call_of 31 (Value.slice A4 2 c4); exact HW4.out _ _)) | quiet_step (first | (go_at_call_of 31 (Value.slice A3 2 c3); exact HW3.out _ _) | (go_at_call_of 31 (Value.slice A4 2 c4); exact HW4.out _ _)))
          refine wpQuiet_nil ?_
          intro _ hw'
          obtain ⟨⟨dq, osq⟩, hw''⟩ := hw'
          subst hw''
          have HB4 := Lib.hid (HB3.out.trans ((below_regrown w6 dq osq).mono HB3.out.size))
          have HR7 := Lib.hid ((HR6.out.1.below (below_regrown w6 dq osq) (by rw [HR6.out.2]; exact Nat.le_refl _)).wide (Nat.le_refl _) (by rw [← HR6.out.2]; exact (below_regrown w6 dq osq).size))
          go_wp2
          go_ret2
          rw [HE3.out]
          exact ⟨_, rfl, HB4.out, fun _ => ⟨_, rfl, A5, c5, (by rw [decide_eq_true p0]; rfl), ⟨by show 256 * b4.toNat + b5.toNat < 65536; omega, by show 256 * b6.toNat + b7.toNat < 65536; omega⟩, HR7.out, HC5.out.1, HC5.out.2.1, HC5.out.2.2⟩, fun h => absurd rfl h⟩
        · have q1 := bneT (show (b1.toNat : Int) ≠ 0 from fun h => p1 (UInt8.toNat_inj.1 (Int.ofNat.inj h)))
          go_wp2_with fail
          go_quiet (fail)
          rename_i nq
          have HB3 := Lib.hid (below_drewN' HB2.out nq)
          go_wp2
          go_ret2
          exact ecO_none (HE2.out.trans (if_pos (.inr p1))) (by decide) HB3.out
      · have q0 := bneT (show (b0.toNat : Int) ≠ 0 from fun h => p0 (UInt8.toNat_inj.1 (Int.ofNat.inj h)))
        have q2 := beqF (show ¬ (b0.toNat : Int) = 0 from fun h => p0 (UInt8.toNat_inj.1 (Int.ofNat.inj h)))
        by_cases p8 : b0 = 8
        · have q8 := bneF (show (b0.toNat : Int) = 8 by rw [p8]; rfl)
          by_cases p1 : b1 = 0
          · have q1 := bneF (show (b1.toNat : Int) = 0 by rw [p1]; rfl)
            have HE3 := Lib.hid (HE2.out.trans (if_neg (fun h => h.elim (fun q => q.2 p8) (fun q => q p1))))
            go_wp2_with fail
            go_quiet (fail)
            rename_i nq
            clear z0 z1 y0 y1
            go_wp2_with fail
            obtain ⟨w6, hw6⟩ : ∃ w6, w5.drewN nq = w6 := ⟨_, rfl⟩
            have HB3 : Hid (Below w.heap.size w w6) := by rw [← hw6]; exact below_drewN' HB2.out nq
            have hs6 : w6.heap.size = w5.heap.size := by rw [← hw6]; rfl
            have k3 := cell_regrown (show w6.cell? _ = _ from by rw [← hw6]; exact y3)
            have k4 := cell_regrown (show w6.cell? _ = _ from by rw [← hw6]; exact y4)
            have k5 := cell_regrown (show w6.cell? _ = _ from by rw [← hw6]; exact y5)
            have hr3 : Rd w6 0 w5.heap.size A3 (cells [b4, b5]) := by rw [← hw6]; exact HR3.out
            have hr4 : Rd w6 0 w5.heap.size A4 (cells [b6, b7]) := by rw [← hw6]; exact HR4.out
            have hr5 : Rd w6 w.heap.size w5.heap.size A5 (cells r) := by rw [← hw6]; exact HR5.out
            have hc3 := fun d os => Calls.regrown_of ((word_at A3 b4 b5 c3 _ _ _ (hr3.below (below_regrown w6 d os) (by omega))).mono fun _ _ ⟨h1, h2⟩ => ⟨h1, by rw [h2]; exact Below.refl _ _⟩)
            have hc4 := fun d os => Calls.regrown_of ((word_at A4 b6 b7 c4 _ _ _ (hr4.below (below_regrown w6 d os) (by omega))).mono fun _ _ ⟨h1, h2⟩ => ⟨h1, by rw [h2]; exact Below.refl _ _⟩)
            have HW3 := Lib.hid hc3
            have HW4 := Lib.hid hc4
            have HR6 := Lib.hid (And.intro hr5 hs6)
            rw [hw6]
            clear y3 y4 y5 hr3 hr4 hr5 hw6 hc3 hc4 hs6
            refine wp_region_quiet_below (by kernel_rfl) (by kernel_rfl) ?_
            repeat (first | go_big_quiet_step (first | (go_at_call_of 31 (Value.slice A3 2 c3); exact HW3.out _ _) | (go_at_call_of 31 (Value.slice A4 2 c4); exact HW4.out _ _)) | quiet_step (first | (go_at_call_of 31 (Value.slice A3 2 c3); exact HW3.out _ _) | (go_at_call_of 31 (Value.slice A4 2 c4); exact HW4.out _ _)))
            refine wpQuiet_nil ?_
            intro _ hw'
            obtain ⟨⟨dq, osq⟩, hw''⟩ := hw'
            subst hw''
            have HB4 := Lib.hid (HB3.out.trans ((below_regrown w6 dq osq).mono HB3.out.size))
            have HR7 := Lib.hid ((HR6.out.1.below (below_regrown w6 dq osq) (by rw [HR6.out.2]; exact Nat.le_refl _)).wide (Nat.le_refl _) (by rw [← HR6.out.2]; exact (below_regrown w6 dq osq).size))
            go_wp2
            go_ret2
            rw [HE3.out]
            exact ⟨_, rfl, HB4.out, fun _ => ⟨_, rfl, A5, c5, (by rw [decide_eq_false p0]; rfl), ⟨by show 256 * b4.toNat + b5.toNat < 65536; omega, by show 256 * b6.toNat + b7.toNat < 65536; omega⟩, HR7.out, HC5.out.1, HC5.out.2.1, HC5.out.2.2⟩, fun h => absurd rfl h⟩
          · have q1 := bneT (show (b1.toNat : Int) ≠ 0 from fun h => p1 (UInt8.toNat_inj.1 (Int.ofNat.inj h)))
            go_wp2_with fail
            go_quiet (fail)
            rename_i nq
            have HB3 := Lib.hid (below_drewN' HB2.out nq)
            go_wp2
            go_ret2
            exact ecO_none (HE2.out.trans (if_pos (.inr p1))) (by decide) HB3.out
        · have q8 := bneT (show (b0.toNat : Int) ≠ 8 from fun h => p8 (UInt8.toNat_inj.1 (Int.ofNat.inj h)))
          go_wp2_with fail
          go_quiet (fail)
          rename_i nq
          have HB3 := Lib.hid (below_drewN' HB2.out nq)
          go_wp2
          go_ret2
          exact ecO_none (HE2.out.trans (if_pos (.inl ⟨p0, p8⟩))) (by decide) HB3.out
    · have q1 := beqF (show ¬ ((sumL l : Nat) : Int) = 65535 by omega)
      rw [q1]
      have HE2 := Lib.hid (HE.out.trans (if_pos hs))
      have HB2 := Lib.hid (HB1.out.alloc HB1.out.size (.cells #[.slice A n c] 23))
      go_wp2
      go_ret2
      exact ecO_none HE2.out (by decide) HB2.out
end Go.Proofs.Ythkpkhhnlenioaa
