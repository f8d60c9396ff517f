/-
  CksumAdjusts returns true for every list of bytes, every int and every word, and turns nothing that was there.
-/
import Derived.Test.YtgpkbmcallbcgaaParts
import Derived.Test.YtgpkbmcallbcgaaRef
import Derived.Deep.QuietTactic
import Derived.BigQuiet
import Derived.Laws.BitsAllLaws
namespace Go.Proofs.Ytgpkbmcallbcgaa
open Go.RowKit

theorem adjusts_big (A : Option Addr) (L c : Nat) (at' : Int) (now : Nat) (w : World) (hm : L ≤ 140737488351232) (h : 2000 < L ∨ L % 2 = 1 ∨ L = 0) :
    Calls Try.prog 5 #[.slice A L c, .int .i64 at', .int .u16 now] w fun e w' => e = .returned (.bool true) ∧ Below w.heap.size w w' := by
  have hi : (2000 : Int) < (L : Int) ∨ ((L : Int) ≤ 2000 ∧ ((L : Int) % 2 == 1) = true) ∨ L = 0 := by
    by_cases h3 : 2000 < L
    · exact .inl (by omega)
    · by_cases h4 : L % 2 = 1
      · exact .inr (.inl ⟨by omega, beqT (by omega)⟩)
      · exact .inr (.inr (by omega))
  clear h
  rcases hi with hi | ⟨hi, hd⟩ | rfl
  all_goals
    go_enter Try.func5, Try.ntmps5
    go_wp2_with fail
    refine (lives_any _).mono ?_
    rintro e w1 ⟨rfl, hb1⟩
    go_wp2_with fail
    refine (lives_any _).mono ?_
    rintro e w2 ⟨rfl, hb2⟩
    go_wp2
    go_ret
    exact ⟨rfl, hb1.trans (hb2.mono hb1.size)⟩

/-- a word of two bytes -/
theorem word_or (x y : UInt8) : bits .or .u16 ((x.toNat : Int) * 256) (y.toNat : Int) = ((256 * x.toNat + y.toNat : Nat) : Int) := by
  have hx := x.toNat_lt
  have hy := y.toNat_lt
  rw [show (x.toNat : Int) * 256 = ((x.toNat * 256 : Nat) : Int) from by omega, u16_or_nat _ _ (by omega) (by omega)]
  have h := Nat.two_pow_add_eq_or_of_lt (i := 8) (b := y.toNat) (by omega) x.toNat
  rw [show (2 : Nat) ^ 8 = 256 from rfl] at h
  rw [Nat.mul_comm x.toNat 256, ← h]
theorem word_orw (x y : UInt8) : bits .or .u16 (IntKind.u16.wrap (IntKind.u16.wrap (x.toNat : Int) * 256)) (IntKind.u16.wrap (y.toNat : Int)) = ((256 * x.toNat + y.toNat : Nat) : Int) := by
  have hx := x.toNat_lt
  have hy := y.toNat_lt
  rw [IntWalk.u16_in (x.toNat : Int) ⟨by omega, by omega⟩, IntWalk.u16_in _ ⟨by omega, by omega⟩, IntWalk.u16_in _ ⟨by omega, by omega⟩, word_or]
/-- the word at an index -/
theorem word_at (l : List UInt8) (q : Nat) (hp : l.length % 2 = 0) (hq : 2 * q + 1 < l.length) :
    ∃ (p r : List UInt8) (x y : UInt8), l = p ++ x :: y :: r ∧ p.length = 2 * q ∧ l[2 * q]? = some x ∧ l[2 * q + 1]? = some y := by
  refine ⟨l.take (2 * q), l.drop (2 * q + 2), l[2 * q], l[2 * q + 1], ?_, by rw [List.length_take]; omega, List.getElem?_eq_getElem (by omega), List.getElem?_eq_getElem hq⟩
  rw [← List.drop_eq_getElem_cons (by omega : 2 * q + 1 < l.length), ← List.drop_eq_getElem_cons (by omega : 2 * q < l.length), List.take_append_drop]
theorem tot_word (p r : List UInt8) (x y : UInt8) (q : Nat) (hp : p.length = 2 * q) : tot true (p ++ x :: y :: r) = tot true p + tot true r + (256 * x.toNat + y.toNat) := by
  rw [tot_even _ _ (par_true p (by omega))]
  show _ + (256 * x.toNat + (y.toNat + tot true r)) = _
  omega
theorem set_word (p r : List UInt8) (x y a b : UInt8) (q : Nat) (hp : p.length = 2 * q) : ((p ++ x :: y :: r).set (2 * q) a).set (2 * q + 1) b = p ++ a :: b :: r := by
  rw [List.set_append_right _ _ (by omega), List.set_append_right _ _ (by omega), show 2 * q - p.length = 0 from by omega, show 2 * q + 1 - p.length = 1 from by omega]
  rfl
/-- the sum with another word -/
theorem adjust_eq (R was now : Nat) (hw : was ≤ 65535) (hn : now ≤ 65535) (hz : R + now ≠ 0) :
    add16 (add16 (fold16 (R + was)) (65535 - was)) now = fold16 (R + now) := by
  rw [add16_word _ _ (by omega), add16_word _ _ hn]
  unfold fold16
  repeat' split
  all_goals omega

set_option maxHeartbeats 2000000 in
theorem adjusts_walk (ad : Addr) (l : List UInt8) (c q : Nat) (at' : Int) (now : Nat) (w : World) (hl : l.length ≤ 2000) (hp : l.length % 2 = 0) (hnow : now ≤ 65535) (hq : 2 * q + 1 < l.length) (hat : (IntKind.u64.wrap at').tmod ((l.length : Int) / 2) = (q : Int)) (h1 : Rd w 0 w.heap.size (some ad) (cells l)) :
    Calls Try.prog 5 #[.slice (some ad) l.length c, .int .i64 at', .int .u16 now] w fun e w' => e = .returned (.bool true) ∧ Below w.heap.size w w' := by
  have hil : (l.length : Int) ≤ 2000 := by omega
  have hd : ((l.length : Int) % 2 == 1) = false := beqF (by omega)
  have hd2 : ((l.length : Int) == 0) = false := beqF (by omega)
  obtain ⟨i0, hi0, hz0, hz1, hz2⟩ := info_parts info5
  obtain ⟨p, r, x, y, hsp, hpl, hx, hy⟩ := word_at l q hp hq
  have HSP := Lib.hid hsp
  have HPL := Lib.hid hpl
  clear hsp hpl hp
  go_enter Try.func5, Try.ntmps5
  go_wp2_with fail
  refine (lives_any _).mono ?_
  rintro e w1 ⟨rfl, hb1⟩
  have HH := Lib.hid hb1
  have HX : Hid (w1.cell? (ad.add (2 * q)) = some (.int .u8 (x.toNat : Int))) := by
    obtain ⟨ad', e, _, _, hc⟩ := h1.below hb1 (Nat.le_refl _) (2 * q) (.int .u8 (x.toNat : Int)) (by unfold cells; rw [List.getElem?_map, hx]; rfl)
    cases e
    exact hc
  have HY : Hid (w1.cell? (ad.add (2 * q + 1)) = some (.int .u8 (y.toNat : Int))) := by
    obtain ⟨ad', e, _, _, hc⟩ := h1.below hb1 (Nat.le_refl _) (2 * q + 1) (.int .u8 (y.toNat : Int)) (by unfold cells; rw [List.getElem?_map, hy]; rfl)
    cases e
    exact hc
  clear hb1 hx hy
  have hl2 : (1 : Int) ≤ (l.length : Int) / 2 := by omega
  have hqi : 2 * (q : Int) + 1 < (l.length : Int) := by omega
  go_wp2_with fail
  clear hat
  have hx := HX.out
  have hy : w1.cell? ⟨ad.block, ad.off + (2 * q + 1), none⟩ = some (.int .u8 (y.toNat : Int)) := by simpa [Addr.add] using HY.out
  have hxl := x.toNat_lt
  have hyl := y.toNat_lt
  have s1 : IntKind.i64.wrap (2 * (q : Int) + 1) = 2 * (q : Int) + 1 := IntWalk.i64_in _ (by omega)
  have s2 : 0 ≤ 2 * (q : Int) + 1 := by omega
  have s3 : (2 * (q : Int) + 1).toNat = 2 * q + 1 := by omega
  have s4 : 0 ≤ 2 * (q : Int) := by omega
  have s5 : (2 * (q : Int)).toNat = 2 * q := by omega
  have s6 : 2 * (q : Int) < (l.length : Int) := by omega
  go_quiet (fail)
  rename_i nq
  have hB : Below w.heap.size w (w1.drewN nq) := below_drewN' HH.out nq
  generalize w1.drewN nq = wq at hB ⊢
  have HB := Lib.hid hB
  clear hB HX HY hx hy s1 s2 s3 s4 s5 s6
  go_wp2_with fail
  refine (sum_any _ _ [l] _ _ _ 0 w.heap.size _ l _ (rd_at _ _ _ _ _ (by simp)) (pts_cons (h1.below (bal HB.out _) (Nat.le_refl _)) rfl pts_nil) rfl (by simp) (all1 (by omega)) (by simp)).mono ?_
  rintro e w2 ⟨rfl, rfl⟩
  go_wp2_with (at_builtin; refine wpList_append_rdg rfl _ _ 22 rfl w.heap.size 5 i0 (.int .u8 0) 1 Try.underlying22 hi0 hz0 hz1 hz2 rfl _ _ _ rfl (own_lit _ [] _ _ w.heap.size 0 (by simp) (by have := HB.out.size; simp; omega) (by unfold maxLen; omega) rfl) (some ad) l.length c (cells l) rfl (fun h => by cases h) (cells_length l) (h1.below (bal (bal HB.out _) _) (Nat.le_refl _)) (cells_one l) (by unfold maxLen; omega) (by omega) (by have := HB.out.size; simp; omega) ?_)
  intro v2 w2 hown2 hgrow2
  have HB2 : Hid (Below w.heap.size w w2) := (bal (bal HB.out _) _).grown hgrow2 (by have := HB.out.size; simp; omega) fun g hg => by have := HB.out.size; simp [Value.ownBlock] at hg; omega
  have hs2 : w.heap.size ≤ w2.heap.size := HB2.out.size
  clear hgrow2
  obtain ⟨A5, c5, hv2⟩ := own_form hown2
  rw [hv2] at hown2 ⊢
  clear hv2
  obtain ⟨g, hA5, hg1, hg2, _⟩ := own_at hown2 (cells_get l (2 * q) (by omega))
  rw [hA5] at hown2 ⊢
  have hc1 : w2.cell? ⟨g, 2 * q, none⟩ = some (.int .u8 (l[2 * q].toNat : Int)) := (hown2.cellAt (2 * q) (by omega)).trans (cells_get l _ _)
  have hc2 : w2.cell? ⟨g, 2 * q + 1, none⟩ = some (.int .u8 (l[2 * q + 1].toNat : Int)) := (hown2.cellAt (2 * q + 1) (by omega)).trans (cells_get l _ _)
  have hf1 : w2.frozen? ⟨g, 2 * q, none⟩ = false := hown2.frozenAt _
  have hf2 : w2.frozen? ⟨g, 2 * q + 1, none⟩ = false := hown2.frozenAt _
  have HO2 : Hid (((w2.setCell ⟨g, 2 * q, none⟩ (.int .u8 ((now : Int) / 256))).setCell ⟨g, 2 * q + 1, none⟩ (.int .u8 ((now : Int) % 256))).ownsRow w.heap.size 5 1 (.slice (some ⟨g, 0, none⟩) l.length c5) l.length (cells (p ++ UInt8.ofNat (now / 256) :: UInt8.ofNat (now % 256) :: r))) := by
    show World.ownsRow _ _ _ _ _ _ _
    have h := ((hown2.stored (2 * q) (.int .u8 ((now : Int) / 256))).1.stored (2 * q + 1) (.int .u8 ((now : Int) % 256))).1
    have e1 : (now : Int) / 256 = ((UInt8.ofNat (now / 256)).toNat : Int) := by rw [UInt8.toNat_ofNat']; omega
    have e2 : (now : Int) % 256 = ((UInt8.ofNat (now % 256)).toNat : Int) := by rw [UInt8.toNat_ofNat']; omega
    have e3 : ((cells l).set (2 * q) (.int .u8 ((UInt8.ofNat (now / 256)).toNat : Int))).set (2 * q + 1) (.int .u8 ((UInt8.ofNat (now % 256)).toNat : Int)) = cells (p ++ UInt8.ofNat (now / 256) :: UInt8.ofNat (now % 256) :: r) := by
      have := congrArg cells (set_word p r x y (UInt8.ofNat (now / 256)) (UInt8.ofNat (now % 256)) q HPL.out)
      rw [← HSP.out] at this
      unfold cells at this ⊢
      rw [List.map_set, List.map_set] at this
      exact this
    rw [e1, e2] at h ⊢
    rw [e3] at h
    exact h
  have HB3 : Hid (Below w.heap.size w ((w2.setCell ⟨g, 2 * q, none⟩ (.int .u8 ((now : Int) / 256))).setCell ⟨g, 2 * q + 1, none⟩ (.int .u8 ((now : Int) % 256)))) := (HB2.out.setCell (by exact hg1) _).setCell (by exact hg1) _
  clear hown2 hA5
  go_wp2_with fail
  clear hc1 hc2 hf1 hf2
  generalize ((w2.setCell ⟨g, 2 * q, none⟩ (.int .u8 ((now : Int) / 256))).setCell ⟨g, 2 * q + 1, none⟩ (.int .u8 ((now : Int) % 256))) = w3 at HO2 HB3 ⊢
  rw [word_or]
  obtain ⟨was, hwas⟩ : ∃ was : Nat, 256 * x.toNat + y.toNat = was := ⟨_, rfl⟩
  have hwl : was ≤ 65535 := by omega
  rw [hwas]
  have hsl := sumL_le l
  refine (adjust_any (65535 - sumL l) was now _ (by omega) hwl hnow).mono ?_
  rintro e w4 ⟨rfl, rfl⟩
  go_wp2_with fail
  refine (refadjust_any (65535 - sumL l) was now _ (by omega) hwl hnow).mono ?_
  rintro e w4 ⟨rfl, rfl⟩
  have hal := add16_le (add16 (65535 - (65535 - sumL l)) (65535 - was)) now (add16_le _ _ (by omega) (by omega)) hnow
  have htn : 256 * (UInt8.ofNat (now / 256)).toNat + (UInt8.ofNat (now % 256)).toNat = now := by rw [UInt8.toNat_ofNat', UInt8.toNat_ofNat']; omega
  have htx := tot_word p r (UInt8.ofNat (now / 256)) (UInt8.ofNat (now % 256)) q HPL.out
  have htl := tot_word p r x y q HPL.out
  rw [htn] at htx
  rw [← HSP.out, hwas] at htl
  have HE : Hid (sumL (p ++ UInt8.ofNat (now / 256) :: UInt8.ofNat (now % 256) :: r) ≠ 0 → add16 (add16 (65535 - (65535 - sumL l)) (65535 - was)) now = sumL (p ++ UInt8.ofNat (now / 256) :: UInt8.ofNat (now % 256) :: r)) := by
    show _ → _ = _
    unfold sumL
    intro h0
    rw [htx, htl, show 65535 - (65535 - fold16 (tot true p + tot true r + was)) = fold16 (tot true p + tot true r + was) from by have := fold16_le (tot true p + tot true r + was); omega]
    exact adjust_eq _ _ _ hwl hnow (fun h => h0 (by rw [htx]; exact (fold16_zero _).2 h))
  have hXl : (p ++ UInt8.ofNat (now / 256) :: UInt8.ofNat (now % 256) :: r).length = l.length := by rw [HSP.out]; simp
  generalize p ++ UInt8.ofNat (now / 256) :: UInt8.ofNat (now % 256) :: r = X at HO2 HE hXl
  rw [← hXl] at HO2 hil hqi ⊢
  clear hwas htn htx htl hsl
  generalize add16 (add16 (65535 - (65535 - sumL l)) (65535 - was)) now = v at HE hal ⊢
  have HR := Lib.hid (Rd.own HO2.out)
  have hcv := run_text (P := Try.prog) w3 22 9 5 c5 Try.underlying22 Try.underlying5 Try.underlying9 HR.out
  have hs3 := HB3.out.size
  have HXl := Lib.hid hXl
  clear hXl
  by_cases hz : sumL X = 0
  · have HZ := Lib.hid hz
    clear hz
    go_wp2_with fail
    (with_reducible refine (reffold_any X _ (by omega)).mono ?_)
    rintro e w4 ⟨rfl, rfl⟩
    rw [HZ.out]
    go_wp2_with fail
    go_ret
    exact ⟨rfl, HB3.out⟩
  · have HV : Hid (v = sumL X) := HE.out hz
    have hd : (((sumL X : Nat) : Int) == 0) = false := beqF (by omega)
    clear hz
    go_wp2_with fail
    (with_reducible refine (reffold_any X _ (by omega)).mono ?_)
    rintro e w4 ⟨rfl, rfl⟩
    go_wp2_with fail
    refine (sum_any _ _ [X] _ _ _ 0 w3.heap.size _ X _ (rd_at _ _ _ _ _ (by simp)) (pts_cons ((HR.out.alloc (Nat.le_refl _) _).wide (Nat.zero_le _) (Nat.le_refl _)) rfl pts_nil) rfl (by simp) (all1 (by omega)) (by simp)).mono ?_
    rintro e w4 ⟨rfl, rfl⟩
    rw [HV.out]
    go_wp2_with fail
    go_ret
    exact ⟨rfl, bal HB3.out _⟩

/-- a place of a word -/
theorem place (z : Int) (n : Nat) (hn : 2 ≤ n) : ∃ q : Nat, (IntKind.u64.wrap z).tmod ((n : Int) / 2) = (q : Int) ∧ 2 * q + 1 < n := by
  have h0 : 0 ≤ IntKind.u64.wrap z := by simp [IntKind.wrap, IntKind.bits, IntKind.signed]; omega
  generalize IntKind.u64.wrap z = y at h0 ⊢
  obtain ⟨m, rfl⟩ := Int.eq_ofNat_of_zero_le h0
  refine ⟨m % (n / 2), ?_, ?_⟩
  · rw [Int.tmod_eq_emod_of_nonneg (by omega)]
    rfl
  · have := Nat.mod_lt m (show 0 < n / 2 by omega)
    omega
theorem adjusts_any (A : Option Addr) (l : List UInt8) (c : Nat) (at' : Int) (now : Nat) (w : World) (hm : l.length ≤ 140737488351232) (hnow : now ≤ 65535) (h1 : Rd w 0 w.heap.size A (cells l)) :
    Calls Try.prog 5 #[.slice A l.length c, .int .i64 at', .int .u16 now] w fun e w' => e = .returned (.bool true) ∧ Below w.heap.size w w' := by
  by_cases hb : 2000 < l.length ∨ l.length % 2 = 1 ∨ l.length = 0
  · exact adjusts_big A l.length c at' now w hm hb
  · obtain ⟨ad, e, _⟩ := h1 0 _ (cells_get l 0 (by omega))
    subst e
    obtain ⟨q, hq, hq2⟩ := place at' l.length (by omega)
    exact adjusts_walk ad l c q at' now w (by omega) (by omega) hnow hq2 hq h1
end Go.Proofs.Ytgpkbmcallbcgaa
