/-
  CksumWord returns true for every list of bytes, every int and every two bytes, and turns nothing that was there.
-/
import Derived.Test.YtgpkbmcallbcgaaAdjusts
import Derived.RegionTactic
import Derived.ChangeAlike
import Derived.Deep.DeepCutAuto
namespace Go.Proofs.Ytgpkbmcallbcgaa
open Go.RowKit

/-- another word at a place -/
def setW (X : List UInt8) (q : Nat) (a b : UInt8) : List UInt8 := (X.set (2 * q) a).set (2 * q + 1) b
theorem setW_length (X : List UInt8) (q : Nat) (a b : UInt8) : (setW X q a b).length = X.length := by simp [setW]
theorem cells_setW (X : List UInt8) (q : Nat) (a b : UInt8) : ((cells X).set (2 * q) (.int .u8 (a.toNat : Int))).set (2 * q + 1) (.int .u8 (b.toNat : Int)) = cells (setW X q a b) := by
  unfold cells setW
  rw [List.map_set, List.map_set]
theorem tot_setW (X : List UInt8) (q : Nat) (a b : UInt8) (hp : X.length % 2 = 0) (hq : 2 * q + 1 < X.length) :
    tot true (setW X q a b) + (256 * X[2 * q].toNat + X[2 * q + 1].toNat) = tot true X + (256 * a.toNat + b.toNat) := by
  obtain ⟨p, r, x, y, hsp, hpl, hx, hy⟩ := word_at X q hp hq
  rw [List.getElem?_eq_getElem (by omega)] at hx hy
  have hx' : X[2 * q] = x := by injection hx
  have hy' : X[2 * q + 1] = y := by injection hy
  rw [hx', hy']
  unfold setW
  rw [hsp, set_word p r x y a b q hpl, tot_word p r a b q hpl, tot_word p r x y q hpl]
  omega
theorem tot_swap (X : List UInt8) (q s : Nat) (hp : X.length % 2 = 0) (hq : 2 * q + 1 < X.length) (hs : 2 * s + 1 < X.length) :
    tot true (setW (setW X q X[2 * s] X[2 * s + 1]) s X[2 * q] X[2 * q + 1]) = tot true X := by
  have h1 := tot_setW X q X[2 * s] X[2 * s + 1] hp hq
  have h2 := tot_setW (setW X q X[2 * s] X[2 * s + 1]) s X[2 * q] X[2 * q + 1] (by rw [setW_length]; exact hp) (by rw [setW_length]; exact hs)
  by_cases h : q = s
  · subst h
    have e1 : (setW X q X[2 * q] X[2 * q + 1])[2 * q]'(by rw [setW_length]; omega) = X[2 * q] := by simp [setW]
    have e2 : (setW X q X[2 * q] X[2 * q + 1])[2 * q + 1]'(by rw [setW_length]; omega) = X[2 * q + 1] := by simp [setW]
    rw [e1, e2] at h2
    omega
  · have e1 : (setW X q X[2 * s] X[2 * s + 1])[2 * s]'(by rw [setW_length]; omega) = X[2 * s] := by
      unfold setW
      rw [List.getElem_set_ne (by omega), List.getElem_set_ne (by omega)]
    have e2 : (setW X q X[2 * s] X[2 * s + 1])[2 * s + 1]'(by rw [setW_length]; omega) = X[2 * s + 1] := by
      unfold setW
      rw [List.getElem_set_ne (by omega), List.getElem_set_ne (by omega)]
    rw [e1, e2] at h2
    omega
/-- the sum behind the bytes makes them right -/
theorem sum_right (l : List UInt8) (hp : l.length % 2 = 0) (n : Nat) (hn : n = 65535 - sumL l) : sumL (l ++ [UInt8.ofNat (n / 256), UInt8.ofNat (n % 256)]) = 65535 := by
  have hl := sumL_le l
  rw [sumL_even l _ (par_true l hp)]
  have e : sumL [UInt8.ofNat (n / 256), UInt8.ofNat (n % 256)] = n := by
    unfold sumL
    show fold16 (256 * (UInt8.ofNat (n / 256)).toNat + ((UInt8.ofNat (n % 256)).toNat + 0)) = n
    rw [UInt8.toNat_ofNat', UInt8.toNat_ofNat', fold16_small _ (by omega)]
    omega
  rw [e, hn]
  unfold add16
  split <;> omega
/-- when a word that is turned leaves them right -/
theorem turned (T T' was now : Nat) (hT : fold16 T = 65535) (h : T' + was = T + now) (hw : was ≤ 65535) (hn : now ≤ 65535) :
    ((was = now ∨ (was + now = 65535 ∧ was * now = 0)) ∧ (fold16 T' = 0 ∨ fold16 T' = 65535)) ∨ (was ≠ now ∧ ¬ (was + now = 65535 ∧ was * now = 0) ∧ fold16 T' ≠ 65535) := by
  have h0 : 0 < T ∧ T % 65535 = 0 := by
    unfold fold16 at hT
    split at hT
    · omega
    · split at hT <;> omega
  have hf1 : 0 < T' → T' % 65535 = 0 → fold16 T' = 65535 := by
    intro a b
    unfold fold16
    rw [if_neg (by omega), if_pos b]
  have hf2 : fold16 T' = 65535 → 0 < T' ∧ T' % 65535 = 0 := by
    intro a
    unfold fold16 at a
    split at a
    · omega
    · split at a <;> omega
  have hz := fold16_zero T'
  generalize fold16 T' = F at hf1 hf2 hz ⊢
  generalize hm : was * now = M
  have hM : M = 0 ↔ was = 0 ∨ now = 0 := by rw [← hm]; exact Nat.mul_eq_zero
  clear hm hT
  obtain ⟨h01, h02⟩ := h0
  by_cases e : was = now
  · have hT' : T' = T := by omega
    rw [← hT'] at h01 h02
    exact Or.inl (And.intro (Or.inl e) (Or.inr (hf1 h01 h02)))
  · by_cases e2 : was + now = 65535 ∧ M = 0
    · refine .inl ⟨.inr e2, ?_⟩
      by_cases hz' : T' = 0
      · exact .inl (hz.2 hz')
      · have hm2 : T' % 65535 = 0 := by
          have h3 := e2.1
          rcases hM.1 e2.2 with h1 | h1
          all_goals
            clear hf1 hf2 hz hM e2 e hz'
            omega
        exact .inr (hf1 (Nat.pos_of_ne_zero hz') hm2)
    · refine .inr ⟨e, e2, fun hc => e2 ?_⟩
      obtain ⟨c1, c2⟩ := hf2 hc
      have h3 : (was = 0 ∧ now = 65535) ∨ (was = 65535 ∧ now = 0) := by
        clear hf1 hf2 hz hM e2 hc
        omega
      rcases h3 with ⟨h1, h2⟩ | ⟨h1, h2⟩
      · exact ⟨by rw [h1, h2], hM.2 (.inl h1)⟩
      · exact ⟨by rw [h1, h2], hM.2 (.inr h2)⟩

set_option maxRecDepth 100000 in
set_option maxHeartbeats 1000000 in
theorem word_big (A : Option Addr) (L c : Nat) (at' : Int) (h lo : UInt8) (w : World) (hm : L ≤ 140737488351232) (hb : 2000 < L ∨ L % 2 = 1) :
    Calls Try.prog 4 #[.slice A L c, .int .i64 at', .agg #[.int .u8 (h.toNat : Int), .int .u8 (lo.toNat : Int)]] w fun e w' => e = .returned (.bool true) ∧ Below w.heap.size w w' := by
  have hi : (2000 : Int) < (L : Int) ∨ ((L : Int) ≤ 2000 ∧ ((L : Int) % 2 == 1) = true) := by
    by_cases h3 : 2000 < L
    · exact .inl (by omega)
    · exact .inr ⟨by omega, beqT (by omega)⟩
  clear hb
  rcases hi with hi | ⟨hi, hd⟩
  all_goals
    go_enter Try.func4, Try.ntmps4
    go_wp2_with fail
    go_quiet (fail)
    rename_i nq
    have hB : Below w.heap.size w ((w.alloc (.cells #[.int .u8 (h.toNat : Int), .int .u8 (lo.toNat : Int)] 29)).drewN nq) := below_drewN' (bal (Below.refl _ _) _) nq
    generalize (w.alloc (.cells #[.int .u8 (h.toNat : Int), .int .u8 (lo.toNat : Int)] 29)).drewN nq = wq at hB ⊢
    have HB := Lib.hid hB
    clear hB
    go_wp2_with fail
    refine (lives_any _).mono ?_
    rintro e w1 ⟨rfl, hb1⟩
    go_wp2_with fail
    refine (lives_any _).mono ?_
    rintro e w2 ⟨rfl, hb2⟩
    go_wp2
    go_ret
    exact ⟨rfl, HB.out.trans ((hb1.trans (hb2.mono hb1.size)).mono HB.out.size)⟩

set_option maxRecDepth 100000 in
set_option maxHeartbeats 4000000 in
theorem word_walk (A : Option Addr) (l : List UInt8) (c q s : Nat) (at' : Int) (h lo : UInt8) (w : World) (hl : l.length ≤ 2000) (hp : l.length % 2 = 0) (hq : 2 * q + 1 < l.length + 2) (hs : 2 * s + 1 < l.length + 2)
    (hat : (IntKind.u64.wrap at').tmod (((l.length + 2 : Nat) : Int) / 2) = (q : Int)) (hhi : (h.toNat : Int) % (((l.length + 2 : Nat) : Int) / 2) = (s : Int)) (hA : A = none → c = 0) (h1 : Rd w 0 w.heap.size A (cells l)) :
    Calls Try.prog 4 #[.slice A l.length c, .int .i64 at', .agg #[.int .u8 (h.toNat : Int), .int .u8 (lo.toNat : Int)]] w fun e w' => e = .returned (.bool true) ∧ Below w.heap.size w w' := by
  have hil : (l.length : Int) ≤ 2000 := by omega
  have hd : ((l.length : Int) % 2 == 1) = false := beqF (by omega)
  obtain ⟨i0, hi0, hz0, hz1, hz2⟩ := info_parts info5
  obtain ⟨n, hn⟩ : ∃ n, 65535 - sumL l = n := ⟨_, rfl⟩
  have hnl : n ≤ 65535 := by omega
  have HSR := Lib.hid (sum_right l hp n hn.symm)
  have HN := Lib.hid hn
  obtain ⟨X, hX⟩ : ∃ X, l ++ [UInt8.ofNat (n / 256), UInt8.ofNat (n % 256)] = X := ⟨_, rfl⟩
  rw [hX] at HSR
  have hXl : X.length = l.length + 2 := by rw [← hX]; simp
  rw [← hXl] at hat hhi hq hs
  have hpX : Hid (X.length % 2 = 0) := by show _ = _; omega
  have HX := Lib.hid hX
  have HP := Lib.hid hp
  have HXl := Lib.hid hXl
  have hXi : (X.length : Int) ≤ 2002 := by omega
  have HAT := Lib.hid hat
  have HHI := Lib.hid hhi
  clear hn hX hp hXl hat hhi
  have hhl := h.toNat_lt
  have hll := lo.toNat_lt
  go_enter Try.func4, Try.ntmps4
  go_wp2_with fail
  go_quiet (fail)
  rename_i nq
  have hB : Below w.heap.size w ((w.alloc (.cells #[.int .u8 (h.toNat : Int), .int .u8 (lo.toNat : Int)] 29)).drewN nq) := below_drewN' (bal (Below.refl _ _) _) nq
  generalize (w.alloc (.cells #[.int .u8 (h.toNat : Int), .int .u8 (lo.toNat : Int)] 29)).drewN nq = wq at hB ⊢
  have HB := Lib.hid hB
  clear hB
  go_wp2_with fail
  refine (lives_any _).mono ?_
  rintro e w1 ⟨rfl, hb1⟩
  have HB1 : Hid (Below w.heap.size w w1) := HB.out.trans (hb1.mono HB.out.size)
  clear hb1
  go_wp2_with fail
  refine (sum_any _ _ [l] _ _ _ 0 w.heap.size _ l _ (rd_at _ _ _ _ _ (by simp)) (pts_cons (h1.below (bal HB1.out _) (Nat.le_refl _)) rfl pts_nil) rfl (by simp) (all1 (by omega)) (by simp)).mono ?_
  rintro e w2 ⟨rfl, rfl⟩
  rw [HN.out]
  go_wp2_with (at_builtin; refine wpList_append_rdg rfl (.tmp 38) _ 22 rfl w.heap.size 5 i0 (.int .u8 0) 1 Try.underlying22 hi0 hz0 hz1 hz2 rfl _ _ _ rfl (own_lit _ [] _ _ w.heap.size 0 (by simp) (by have := HB1.out.size; simp; omega) (by unfold maxLen; omega) rfl) A l.length c (cells l) rfl hA (cells_length l) (h1.below (bal (bal HB1.out _) _) (Nat.le_refl _)) (cells_one l) (by unfold maxLen; omega) (by omega) (by have := HB1.out.size; simp; omega) ?_)
  intro v2 w2 hown2 hgrow2
  have HB2 : Hid (Below w.heap.size w w2) := (bal (bal HB1.out _) _).grown hgrow2 (by have := HB1.out.size; simp; omega) fun g hg => by have := HB1.out.size; simp [Value.ownBlock] at hg; omega
  have hs2 : w.heap.size ≤ w2.heap.size := HB2.out.size
  clear hgrow2
  have e1 : (n : Int) / 256 = ((UInt8.ofNat (n / 256)).toNat : Int) := by rw [UInt8.toNat_ofNat']; omega
  have e2 : (n : Int) % 256 = ((UInt8.ofNat (n % 256)).toNat : Int) := by rw [UInt8.toNat_ofNat']; omega
  have hrd2 : Rd (w2.alloc (.cells #[.int .u8 ((n : Int) / 256), .int .u8 ((n : Int) % 256)] 5)) w2.heap.size (w2.heap.size + 1) (some ⟨w2.heap.size, 0, none⟩) (cells [UInt8.ofNat (n / 256), UInt8.ofNat (n % 256)]) := by
    rw [e1, e2]
    exact rd_new w2 (cells [UInt8.ofNat (n / 256), UInt8.ofNat (n % 256)]) 5 (0, 0)
  have HR2 := Lib.hid hrd2
  have HO2 := Lib.hid hown2
  clear e1 e2 hrd2 hown2
  go_wp2_with (at_builtin; go_loud (refine wpList_append_rdg rfl (.tmp 40) _ 22 rfl w.heap.size 5 i0 (.int .u8 0) 1 Try.underlying22 hi0 hz0 hz1 hz2 rfl v2 l.length (cells l) rfl (HO2.out.alloc _) (some ⟨w2.heap.size, 0, none⟩) 2 2 (cells [UInt8.ofNat (n / 256), UInt8.ofNat (n % 256)]) rfl (fun h => by cases h) rfl HR2.out (cells_one _) (by unfold maxLen; omega) (by omega) (by simp; omega) ?_))
  intro v3 w3 hown3 hgrow3
  have HB3 : Hid (Below w.heap.size w w3) := (bal HB2.out _).grown hgrow3 (by simp; omega) fun g hg => (HO2.out.lt g hg).1
  have hs3 : w.heap.size ≤ w3.heap.size := HB3.out.size
  rw [← cells_append, HX.out, ← HXl.out] at hown3
  obtain ⟨A5, c5, hv3⟩ := own_form hown3
  rw [hv3] at hown3 ⊢
  clear hgrow3 hv3
  obtain ⟨g, hA5, hg1, hg2, _⟩ := own_at hown3 (cells_get X (2 * q) (by omega))
  rw [hA5] at hown3 ⊢
  have HO3 := Lib.hid hown3
  have HR3 := Lib.hid (Rd.own hown3)
  clear hA5 hown3 HO2 HR2 HB HB1
  go_wp2_with fail
  refine (right_any _ _ [X] _ _ _ 0 w3.heap.size _ X _ (rd_at _ _ _ _ _ (by simp)) (pts_cons ((HR3.out.alloc (Nat.le_refl _) _).wide (Nat.zero_le _) (Nat.le_refl _)) rfl pts_nil) rfl (by simp) (all1 (by omega)) (by simp)).mono ?_
  rintro e w4 ⟨rfl, rfl⟩
  rw [HSR.out]
  have hat := HAT.out
  have hhi := HHI.out
  have hx2 : (1 : Int) ≤ (X.length : Int) / 2 := by omega
  have hqi : 2 * (q : Int) + 1 < (X.length : Int) := by omega
  have hsi : 2 * (s : Int) + 1 < (X.length : Int) := by omega
  have HRX : Hid (Rd ((w3.alloc (.cells #[.slice (some ⟨g, 0, none⟩) X.length c5] 22)).alloc (.cells #[] 5)) w.heap.size w3.heap.size (some ⟨g, 0, none⟩) (cells X)) := (HR3.out.alloc (Nat.le_refl _) _).alloc (by simp) _
  go_wp2_with (at_builtin; refine wpList_append_rdg rfl (.tmp 70) (.tmp 71) 22 rfl (w3.heap.size + 1) 5 i0 (.int .u8 0) 1 Try.underlying22 hi0 hz0 hz1 hz2 rfl _ _ _ rfl (own_lit _ [] _ _ (w3.heap.size + 1) 0 (by simp) (by simp) (by unfold maxLen; omega) rfl) (some ⟨g, 0, none⟩) X.length c5 (cells X) rfl (fun h => by cases h) (cells_length X) HRX.out (cells_one X) (by unfold maxLen; omega) (by omega) (by simp) ?_)
  intro v4 w4 hown4 hgrow4
  clear hat hhi
  have HB4 : Hid (Below w.heap.size w w4) := (bal (bal HB3.out _) _).grown hgrow4 (by simp; omega) fun g hg => by simp [Value.ownBlock] at hg; omega
  have HX4 : Hid (w4.ownsRow w.heap.size 5 1 (.slice (some ⟨g, 0, none⟩) X.length c5) X.length (cells X)) := ((HO3.out.alloc _).alloc _).kept hgrow4 (.inr (by simp [Value.ownBlock]; omega))
  obtain ⟨A6, c6, hv4⟩ := own_form hown4
  rw [hv4] at hown4 ⊢
  clear hgrow4 hv4
  obtain ⟨g2, hA6, hg3, hg4, _⟩ := own_at hown4 (cells_get X (2 * q) (by omega))
  rw [hA6] at hown4 ⊢
  have HO4 := Lib.hid hown4
  clear hA6 hown4 HRX HR3 HO3
  have hy1 : w4.cell? ⟨g2, 2 * q, none⟩ = some (.int .u8 (X[2 * q].toNat : Int)) := (HO4.out.cellAt (2 * q) (by omega)).trans (cells_get X _ _)
  have hy2 : w4.cell? ⟨g2, 2 * q + 1, none⟩ = some (.int .u8 (X[2 * q + 1].toNat : Int)) := (HO4.out.cellAt (2 * q + 1) (by omega)).trans (cells_get X _ _)
  have hy3 : w4.cell? ⟨g2, 2 * s, none⟩ = some (.int .u8 (X[2 * s].toNat : Int)) := (HO4.out.cellAt (2 * s) (by omega)).trans (cells_get X _ _)
  have hy4 : w4.cell? ⟨g2, 2 * s + 1, none⟩ = some (.int .u8 (X[2 * s + 1].toNat : Int)) := (HO4.out.cellAt (2 * s + 1) (by omega)).trans (cells_get X _ _)
  have hf : ∀ j, w4.frozen? ⟨g2, j, none⟩ = false := fun j => HO4.out.frozenAt j
  have s1 : IntKind.i64.wrap (2 * (q : Int) + 1) = 2 * (q : Int) + 1 := IntWalk.i64_in _ (by omega)
  have s2 : 0 ≤ 2 * (q : Int) + 1 := by omega
  have s3 : (2 * (q : Int) + 1).toNat = 2 * q + 1 := by omega
  have s4 : 0 ≤ 2 * (q : Int) := by omega
  have s5 : (2 * (q : Int)).toNat = 2 * q := by omega
  have s6 : 2 * (q : Int) < (X.length : Int) := by omega
  have r1 : IntKind.i64.wrap (2 * (s : Int) + 1) = 2 * (s : Int) + 1 := IntWalk.i64_in _ (by omega)
  have r2 : 0 ≤ 2 * (s : Int) + 1 := by omega
  have r3 : (2 * (s : Int) + 1).toNat = 2 * s + 1 := by omega
  have r4 : 0 ≤ 2 * (s : Int) := by omega
  have r5 : (2 * (s : Int)).toNat = 2 * s := by omega
  have r6 : 2 * (s : Int) < (X.length : Int) := by omega
  go_upto_region 11 with (fail)
  go_cut [] (fun wx => ∃ Y : List UInt8, Hid (Y.length = X.length) ∧ Hid (tot true Y = tot true X) ∧ Hid (wx.ownsRow (w3.heap.size + 1) 5 1 (.slice (some ⟨g2, 0, none⟩) X.length c6) X.length (cells Y)) ∧ Hid (wx.ownsRow w.heap.size 5 1 (.slice (some ⟨g, 0, none⟩) X.length c5) X.length (cells X)) ∧ Hid (Below w.heap.size w wx))
  case first =>
    have HT : Hid (tot true (setW (setW X q X[2 * s] X[2 * s + 1]) s X[2 * q] X[2 * q + 1]) = tot true X) := tot_swap X q s hpX.out (by omega) (by omega)
    have HY : Hid (((((w4.setCell ⟨g2, 2 * q, none⟩ (.int .u8 (X[2 * s].toNat : Int))).setCell ⟨g2, 2 * q + 1, none⟩ (.int .u8 (X[2 * s + 1].toNat : Int))).setCell ⟨g2, 2 * s, none⟩ (.int .u8 (X[2 * q].toNat : Int))).setCell ⟨g2, 2 * s + 1, none⟩ (.int .u8 (X[2 * q + 1].toNat : Int))).drew.ownsRow (w3.heap.size + 1) 5 1 (.slice (some ⟨g2, 0, none⟩) X.length c6) X.length (cells (setW (setW X q X[2 * s] X[2 * s + 1]) s X[2 * q] X[2 * q + 1]))) := by
      have h := ((((HO4.out.stored (2 * q) (.int .u8 (X[2 * s].toNat : Int))).1.stored (2 * q + 1) (.int .u8 (X[2 * s + 1].toNat : Int))).1.stored (2 * s) (.int .u8 (X[2 * q].toNat : Int))).1.stored (2 * s + 1) (.int .u8 (X[2 * q + 1].toNat : Int))).1
      rw [cells_setW, cells_setW] at h
      exact h
    have HX5 : Hid (((((w4.setCell ⟨g2, 2 * q, none⟩ (.int .u8 (X[2 * s].toNat : Int))).setCell ⟨g2, 2 * q + 1, none⟩ (.int .u8 (X[2 * s + 1].toNat : Int))).setCell ⟨g2, 2 * s, none⟩ (.int .u8 (X[2 * q].toNat : Int))).setCell ⟨g2, 2 * s + 1, none⟩ (.int .u8 (X[2 * q + 1].toNat : Int))).drew.ownsRow w.heap.size 5 1 (.slice (some ⟨g, 0, none⟩) X.length c5) X.length (cells X)) := by
      have h : ∀ (W : World) (j : Nat) (u : Value), W.ownsRow w.heap.size 5 1 (.slice (some ⟨g, 0, none⟩) X.length c5) X.length (cells X) → (W.setCell ⟨g2, j, none⟩ u).ownsRow w.heap.size 5 1 (.slice (some ⟨g, 0, none⟩) X.length c5) X.length (cells X) := by
        exact fun W j u hW => own_set hW _ u (by show g2 ≠ g; omega)
      exact h _ _ _ (h _ _ _ (h _ _ _ (h _ _ _ HX4.out)))
    have HB5 : Hid (Below w.heap.size w ((((w4.setCell ⟨g2, 2 * q, none⟩ (.int .u8 (X[2 * s].toNat : Int))).setCell ⟨g2, 2 * q + 1, none⟩ (.int .u8 (X[2 * s + 1].toNat : Int))).setCell ⟨g2, 2 * s, none⟩ (.int .u8 (X[2 * q].toNat : Int))).setCell ⟨g2, 2 * s + 1, none⟩ (.int .u8 (X[2 * q + 1].toNat : Int))).drew) := by
      have hg5 : w.heap.size ≤ g2 := by omega
      exact ((((HB4.out.setCell (by exact hg5) _).setCell (by exact hg5) _).setCell (by exact hg5) _).setCell (by exact hg5) _).drew
    have hYl : (setW (setW X q X[2 * s] X[2 * s + 1]) s X[2 * q] X[2 * q + 1]).length = X.length := by rw [setW_length, setW_length]
    have HYl := Lib.hid hYl
    clear hYl
    by_cases hqs : q = s
    · subst hqs
      go_region
      all_goals
        go_wp2_with fail
        go_meet
        exact ⟨_, HYl, HT, HY, HX5, HB5⟩
    · have n1 : ¬ (2 * q = 2 * s) := by omega
      have n2 : ¬ (2 * q = 2 * s + 1) := by omega
      have n3 : ¬ (2 * q + 1 = 2 * s) := by omega
      have n4 : ¬ (2 * q + 1 = 2 * s + 1) := by omega
      have m1 : ¬ (2 * s = 2 * q) := by omega
      have m2 : ¬ (2 * s = 2 * q + 1) := by omega
      have m3 : ¬ (2 * s + 1 = 2 * q) := by omega
      have m4 : ¬ (2 * s + 1 = 2 * q + 1) := by omega
      clear hqs
      go_region
      all_goals
        go_wp2_with fail
        go_meet
        exact ⟨_, HYl, HT, HY, HX5, HB5⟩
  case rest =>
    obtain ⟨Y, HYl, HT, HY, HX5, HB5⟩ := hcut
    clear hy1 hy2 hy3 hy4 hf r1 r2 r3 r4 r5 r6
    have hxa := X[2 * q].toNat_lt
    have hxb := X[2 * q + 1].toNat_lt
    have HTX : Hid (tot true (setW X q h lo) + (256 * X[2 * q].toNat + X[2 * q + 1].toNat) = tot true X + (256 * h.toNat + lo.toNat)) := tot_setW X q h lo hpX.out (by omega)
    have hx1 : wc.cell? ⟨g, 2 * q, none⟩ = some (.int .u8 (X[2 * q].toNat : Int)) := (HX5.out.cellAt (2 * q) (by omega)).trans (cells_get X _ _)
    have hx2 : wc.cell? ⟨g, 2 * q + 1, none⟩ = some (.int .u8 (X[2 * q + 1].toNat : Int)) := (HX5.out.cellAt (2 * q + 1) (by omega)).trans (cells_get X _ _)
    generalize X[2 * q] = xa at hx1 hxa HTX ⊢
    generalize X[2 * q + 1] = xb at hx2 hxb HTX ⊢
    obtain ⟨was, hwas⟩ : ∃ was : Nat, 256 * xa.toNat + xb.toNat = was := ⟨_, rfl⟩
    obtain ⟨now, hnow⟩ : ∃ now : Nat, 256 * h.toNat + lo.toNat = now := ⟨_, rfl⟩
    have hwl : was ≤ 65535 := by omega
    have hnl2 : now ≤ 65535 := by omega
    have hT0 := HTX.out
    rw [hwas, hnow] at hT0
    have HTU := Lib.hid (turned (tot true X) (tot true (setW X q h lo)) was now HSR.out hT0 hwl hnl2)
    clear hT0
    have HWI : Hid ((xa.toNat : Int) * 256 + (xb.toNat : Int) = (was : Int)) := by show _ = _; omega
    have HNI : Hid ((h.toNat : Int) * 256 + (lo.toNat : Int) = (now : Int)) := by show _ = _; omega
    clear hwas hnow
    go_wp2_with fail
    go_quiet (fail)
    rename_i nq
    have HX6 : Hid ((wc.drewN nq).ownsRow w.heap.size 5 1 (.slice (some ⟨g, 0, none⟩) X.length c5) X.length (cells X)) := HX5.out
    have HY6 : Hid ((wc.drewN nq).ownsRow (w3.heap.size + 1) 5 1 (.slice (some ⟨g2, 0, none⟩) X.length c6) X.length (cells Y)) := HY.out
    have HB6 : Hid (Below w.heap.size w (wc.drewN nq)) := below_drewN' HB5.out nq
    have hx61 : (wc.drewN nq).cell? ⟨g, 2 * q, none⟩ = some (.int .u8 (xa.toNat : Int)) := hx1
    have hx62 : (wc.drewN nq).cell? ⟨g, 2 * q + 1, none⟩ = some (.int .u8 (xb.toNat : Int)) := hx2
    clear hx1 hx2 HX5 HY HB5
    generalize wc.drewN nq = w6 at HX6 HY6 HB6 hx61 hx62 ⊢
    have hf1 : w6.frozen? ⟨g, 2 * q, none⟩ = false := HX6.out.frozenAt _
    have hf2 : w6.frozen? ⟨g, 2 * q + 1, none⟩ = false := HX6.out.frozenAt _
    clear s1 s2 s3 s4 s5 s6
    have HX7 : Hid (((w6.setCell ⟨g, 2 * q, none⟩ (.int .u8 (h.toNat : Int))).setCell ⟨g, 2 * q + 1, none⟩ (.int .u8 (lo.toNat : Int))).ownsRow w.heap.size 5 1 (.slice (some ⟨g, 0, none⟩) X.length c5) X.length (cells (setW X q h lo))) := by
      have h := ((HX6.out.stored (2 * q) (.int .u8 (h.toNat : Int))).1.stored (2 * q + 1) (.int .u8 (lo.toNat : Int))).1
      rw [cells_setW] at h
      exact h
    have HY7 : Hid (((w6.setCell ⟨g, 2 * q, none⟩ (.int .u8 (h.toNat : Int))).setCell ⟨g, 2 * q + 1, none⟩ (.int .u8 (lo.toNat : Int))).ownsRow (w3.heap.size + 1) 5 1 (.slice (some ⟨g2, 0, none⟩) X.length c6) X.length (cells Y)) := own_set (own_set HY6.out _ _ (by show g ≠ g2; omega)) _ _ (by show g ≠ g2; omega)
    have HB7 : Hid (Below w.heap.size w ((w6.setCell ⟨g, 2 * q, none⟩ (.int .u8 (h.toNat : Int))).setCell ⟨g, 2 * q + 1, none⟩ (.int .u8 (lo.toNat : Int)))) := (HB6.out.setCell (by exact hg1) _).setCell (by exact hg1) _
    obtain ⟨Z, hZ⟩ : ∃ Z, setW X q h lo = Z := ⟨_, rfl⟩
    have hZl : Z.length = X.length := by rw [← hZ, setW_length]
    rw [hZ] at HX7 HTU
    have hcv := run_text (P := Try.prog) (l := Z) ((w6.setCell ⟨g, 2 * q, none⟩ (.int .u8 (h.toNat : Int))).setCell ⟨g, 2 * q + 1, none⟩ (.int .u8 (lo.toNat : Int))) 22 9 5 c5 Try.underlying22 Try.underlying5 Try.underlying9 (Rd.own HX7.out)
    rw [hZl] at hcv
    have HZl := Lib.hid hZl
    clear hZ hZl HTX
    have HSY : Hid (sumL Y = 65535) := by show _ = _; unfold sumL; rw [HT.out]; exact HSR.out
    have hwi := HWI.out
    have hni := HNI.out
    have HTU2 : Hid (((was = now ∨ (was + now = 65535 ∧ was * now = 0)) ∧ (sumL Z = 0 ∨ sumL Z = 65535)) ∨ (was ≠ now ∧ ¬ (was + now = 65535 ∧ was * now = 0) ∧ sumL Z ≠ 65535)) := HTU.out
    obtain ⟨F, hF⟩ : ∃ F, sumL Z = F := ⟨_, rfl⟩
    have hT := HTU2.out
    rw [hF] at hT
    have HF := Lib.hid hF
    clear hF HTU HTU2
    obtain ⟨M, hM⟩ : ∃ M, was * now = M := ⟨_, rfl⟩
    have hMb : M ≤ 65535 * 65535 := by rw [← hM]; exact Nat.mul_le_mul hwl hnl2
    rw [hM] at hT
    have hMi : (was : Int) * (now : Int) = (M : Int) := by rw [← hM]; exact (Int.natCast_mul was now).symm
    clear hM
    rcases hT with ⟨hc, hF2⟩ | ⟨hc1, hc2, hF2⟩
    · rcases hc with hc | ⟨hc1, hc2⟩
      · have hd1 : ((was : Int) == (now : Int)) = true := beqT (by omega)
        clear hc
        rcases hF2 with hF2 | hF2
        all_goals
          have HF2 := Lib.hid hF2
          clear hF2
          go_wp2_with fail
          clear hcv hx61 hx62 hf1 hf2
          generalize ((w6.setCell ⟨g, 2 * q, none⟩ (.int .u8 (h.toNat : Int))).setCell ⟨g, 2 * q + 1, none⟩ (.int .u8 (lo.toNat : Int))) = w7 at HX7 HY7 HB7 ⊢
          (with_reducible refine (reffold_any Z _ (by have := HZl.out; omega)).mono ?_)
          rintro e w8 ⟨rfl, rfl⟩
          rw [HF.out, HF2.out]
          go_wp2_with fail
          (refine (right_any _ _ [Y] _ _ _ 0 w7.heap.size _ Y _ (rd_at _ _ _ _ _ (by simp)) (pts_cons (((Rd.own HY7.out).alloc (Nat.le_refl _) _).wide (Nat.zero_le _) (Nat.le_refl _)) HYl.out pts_nil) rfl (by simp) (all1 (by have := HYl.out; omega)) (by simp)).mono ?_)
          rintro e w8 ⟨rfl, rfl⟩
          rw [HSY.out]
          go_wp2_with fail
          (refine (right_any _ _ [Z] _ _ _ 0 w7.heap.size _ Z _ (rd_at _ _ _ _ _ (by simp)) (pts_cons ((((Rd.own HX7.out).alloc (Nat.le_refl _) _).alloc (by simp) _).wide (Nat.zero_le _) (Nat.le_refl _)) HZl.out pts_nil) rfl (by simp) (all1 (by have := HZl.out; omega)) (by simp)).mono ?_)
          rintro e w8 ⟨rfl, rfl⟩
          rw [HF.out, HF2.out]
          go_wp2_with fail
          go_ret
          exact ⟨rfl, bal (bal HB7.out _) _⟩
      · have hne : was ≠ now := by omega
        have hd1 : ((was : Int) == (now : Int)) = false := beqF (by omega)
        have hd2 : ((was : Int) + (now : Int) == 65535) = true := beqT (by omega)
        have hd3 : ((M : Int) == 0) = true := beqT (by omega)
        clear hc1 hc2 hne
        rcases hF2 with hF2 | hF2
        all_goals
          have HF2 := Lib.hid hF2
          clear hF2
          go_wp2_with fail
          clear hcv hx61 hx62 hf1 hf2
          generalize ((w6.setCell ⟨g, 2 * q, none⟩ (.int .u8 (h.toNat : Int))).setCell ⟨g, 2 * q + 1, none⟩ (.int .u8 (lo.toNat : Int))) = w7 at HX7 HY7 HB7 ⊢
          (with_reducible refine (reffold_any Z _ (by have := HZl.out; omega)).mono ?_)
          rintro e w8 ⟨rfl, rfl⟩
          rw [HF.out, HF2.out]
          go_wp2_with fail
          (refine (right_any _ _ [Y] _ _ _ 0 w7.heap.size _ Y _ (rd_at _ _ _ _ _ (by simp)) (pts_cons (((Rd.own HY7.out).alloc (Nat.le_refl _) _).wide (Nat.zero_le _) (Nat.le_refl _)) HYl.out pts_nil) rfl (by simp) (all1 (by have := HYl.out; omega)) (by simp)).mono ?_)
          rintro e w8 ⟨rfl, rfl⟩
          rw [HSY.out]
          go_wp2_with fail
          (refine (right_any _ _ [Z] _ _ _ 0 w7.heap.size _ Z _ (rd_at _ _ _ _ _ (by simp)) (pts_cons ((((Rd.own HX7.out).alloc (Nat.le_refl _) _).alloc (by simp) _).wide (Nat.zero_le _) (Nat.le_refl _)) HZl.out pts_nil) rfl (by simp) (all1 (by have := HZl.out; omega)) (by simp)).mono ?_)
          rintro e w8 ⟨rfl, rfl⟩
          rw [HF.out, HF2.out]
          go_wp2_with fail
          go_ret
          exact ⟨rfl, bal (bal HB7.out _) _⟩
    · by_cases hc3 : was + now = 65535
      · have hd1 : ((was : Int) == (now : Int)) = false := beqF (by omega)
        have hd2 : ((was : Int) + (now : Int) == 65535) = true := beqT (by omega)
        have hd3 : ((M : Int) == 0) = false := beqF (by omega)
        clear hc1 hc2 hc3
        have hF3 : ((F : Int) == 65535) = false := beqF (by omega)
        go_wp2_with fail
        clear hcv hx61 hx62 hf1 hf2
        generalize hw7 : ((w6.setCell ⟨g, 2 * q, none⟩ (.int .u8 (h.toNat : Int))).setCell ⟨g, 2 * q + 1, none⟩ (.int .u8 (lo.toNat : Int))) = w7 at HX7 HY7 HB7 ⊢
        have HS7 : Hid (w7.heap.size = w6.heap.size) := by show _ = _; rw [← hw7]; simp
        clear hw7
        (refine (right_any _ _ [Y] _ _ _ 0 w7.heap.size _ Y _ (rd_at _ _ _ _ _ (by simp [HS7.out])) (pts_cons (((Rd.own HY7.out).alloc (Nat.le_refl _) _).wide (Nat.zero_le _) (Nat.le_refl _)) HYl.out pts_nil) rfl (by simp) (all1 (by have := HYl.out; omega)) (by simp)).mono ?_)
        rintro e w8 ⟨rfl, rfl⟩
        rw [HSY.out]
        go_wp2_with fail
        (refine (right_any _ _ [Z] _ _ _ 0 w7.heap.size _ Z _ (rd_at _ _ _ _ _ (by simp [HS7.out])) (pts_cons ((((Rd.own HX7.out).alloc (Nat.le_refl _) _).alloc (by simp) _).wide (Nat.zero_le _) (Nat.le_refl _)) HZl.out pts_nil) rfl (by simp) (all1 (by have := HZl.out; omega)) (by simp)).mono ?_)
        rintro e w8 ⟨rfl, rfl⟩
        rw [HF.out]
        go_wp2_with fail
        go_ret
        exact ⟨rfl, bal (bal HB7.out _) _⟩
      · have hd1 : ((was : Int) == (now : Int)) = false := beqF (by omega)
        have hd2 : ((was : Int) + (now : Int) == 65535) = false := beqF (by omega)
        clear hc1 hc2 hc3
        have hF3 : ((F : Int) == 65535) = false := beqF (by omega)
        go_wp2_with fail
        clear hcv hx61 hx62 hf1 hf2
        generalize hw7 : ((w6.setCell ⟨g, 2 * q, none⟩ (.int .u8 (h.toNat : Int))).setCell ⟨g, 2 * q + 1, none⟩ (.int .u8 (lo.toNat : Int))) = w7 at HX7 HY7 HB7 ⊢
        have HS7 : Hid (w7.heap.size = w6.heap.size) := by show _ = _; rw [← hw7]; simp
        clear hw7
        (refine (right_any _ _ [Y] _ _ _ 0 w7.heap.size _ Y _ (rd_at _ _ _ _ _ (by simp [HS7.out])) (pts_cons (((Rd.own HY7.out).alloc (Nat.le_refl _) _).wide (Nat.zero_le _) (Nat.le_refl _)) HYl.out pts_nil) rfl (by simp) (all1 (by have := HYl.out; omega)) (by simp)).mono ?_)
        rintro e w8 ⟨rfl, rfl⟩
        rw [HSY.out]
        go_wp2_with fail
        (refine (right_any _ _ [Z] _ _ _ 0 w7.heap.size _ Z _ (rd_at _ _ _ _ _ (by simp [HS7.out])) (pts_cons ((((Rd.own HX7.out).alloc (Nat.le_refl _) _).alloc (by simp) _).wide (Nat.zero_le _) (Nat.le_refl _)) HZl.out pts_nil) rfl (by simp) (all1 (by have := HZl.out; omega)) (by simp)).mono ?_)
        rintro e w8 ⟨rfl, rfl⟩
        rw [HF.out]
        go_wp2_with fail
        go_ret
        exact ⟨rfl, bal (bal HB7.out _) _⟩

theorem word_any (A : Option Addr) (l : List UInt8) (c : Nat) (at' : Int) (h lo : UInt8) (w : World) (hm : l.length ≤ 140737488351232) (hA : A = none → c = 0) (h1 : Rd w 0 w.heap.size A (cells l)) :
    Calls Try.prog 4 #[.slice A l.length c, .int .i64 at', .agg #[.int .u8 (h.toNat : Int), .int .u8 (lo.toNat : Int)]] w fun e w' => e = .returned (.bool true) ∧ Below w.heap.size w w' := by
  by_cases hb : 2000 < l.length ∨ l.length % 2 = 1
  · exact word_big A l.length c at' h lo w hm hb
  · obtain ⟨q, hq, hq2⟩ := place at' (l.length + 2) (by omega)
    have hs : (h.toNat : Int) % (((l.length + 2 : Nat) : Int) / 2) = ((h.toNat % ((l.length + 2) / 2) : Nat) : Int) := rfl
    have hs2 := Nat.mod_lt h.toNat (show 0 < (l.length + 2) / 2 by omega)
    exact word_walk A l c q _ at' h lo w (by omega) (by omega) hq2 (by omega) hq hs hA h1
end Go.Proofs.Ytgpkbmcallbcgaa
