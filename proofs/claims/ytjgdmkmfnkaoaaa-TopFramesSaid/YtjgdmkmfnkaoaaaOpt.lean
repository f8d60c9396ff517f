/-
  segment.optionSize, segment.readOptions: what options tell, for all bytes that can be read. No condition.
-/
import Derived.Test.YtjgdmkmfnkaoaaaWd
import Derived.WalkMore
import Derived.Deep.LoopGhost
namespace Go.Proofs.Ytjgdmkmfnkaoaaa
open Go.RowKit

theorem byte_at {w : World} {lo hi : Nat} {ad : Addr} {l : List UInt8} {x : UInt8} (h : Rd w lo hi (some ad) (cells l)) (k : Nat) (hk : 0 < k) (hx : l[k]? = some x) : w.cell? ⟨ad.block, ad.off + k, none⟩ = some (.int .u8 (x.toNat : Int)) := by
  have hl := (List.getElem?_eq_some_iff.1 hx).1
  obtain ⟨a', e, hc⟩ := h.byte hl
  cases e
  have e2 : ad.add k = ⟨ad.block, ad.off + k, none⟩ := by unfold Addr.add; rw [if_neg (by omega)]
  rw [e2] at hc
  rw [hc, (List.getElem?_eq_some_iff.1 hx).2]
theorem byte_0 {w : World} {lo hi : Nat} {ad : Addr} {l : List UInt8} {x : UInt8} (h : Rd w lo hi (some ad) (cells l)) (hx : l[0]? = some x) : w.cell? ad = some (.int .u8 (x.toNat : Int)) := by
  have hl := (List.getElem?_eq_some_iff.1 hx).1
  obtain ⟨a', e, hc⟩ := h.byte hl
  cases e
  have : ad.add 0 = ad := by unfold Addr.add; simp
  rw [this] at hc
  rw [hc, (List.getElem?_eq_some_iff.1 hx).2]
theorem getD_of {l : List UInt8} {k : Nat} {x : UInt8} (h : l[k]? = some x) : l.getD k 0 = x := by rw [List.getD_eq_getElem?_getD, h]; rfl

def optSize (l : List UInt8) : Nat × Bool :=
  if l.length < 2 ∨ (l.getD 1 0).toNat < 2 ∨ l.length < (l.getD 1 0).toNat ∨ (l.getD 0 0 = 2 ∧ (l.getD 1 0).toNat ≠ 4) then (0, false) else ((l.getD 1 0).toNat, true)
theorem optSize_pos {l : List UInt8} (h : l.length < 2 ∨ (l.getD 1 0).toNat < 2 ∨ l.length < (l.getD 1 0).toNat ∨ (l.getD 0 0 = 2 ∧ (l.getD 1 0).toNat ≠ 4)) : optSize l = (0, false) := if_pos h
theorem optSize_neg {l : List UInt8} (h : ¬ (l.length < 2 ∨ (l.getD 1 0).toNat < 2 ∨ l.length < (l.getD 1 0).toNat ∨ (l.getD 0 0 = 2 ∧ (l.getD 1 0).toNat ≠ 4))) : optSize l = ((l.getD 1 0).toNat, true) := if_neg h
set_option maxRecDepth 100000 in
set_option maxHeartbeats 400000 in
theorem optsize_any (A : Option Addr) (l : List UInt8) (c lo hi : Nat) (w : World) (h : Rd w lo hi A (cells l)) (hm : l.length ≤ maxLen) :
    Calls Try.prog 70 #[.slice A l.length c] w fun e w' => e = .returned (.tuple #[.int .i64 ((optSize l).1 : Nat), .bool (optSize l).2]) ∧ w = w' := by
  by_cases h2 : l.length < 2
  · have HE := Lib.hid (optSize_pos (l := l) (.inl h2))
    generalize l.length = n at *
    clear h
    go_enter Try.func70, Try.ntmps70
    go_wp2
    go_ret2
    rw [HE.out]
    exact ⟨rfl, rfl⟩
  · obtain ⟨x, hx⟩ : ∃ x, l[0]? = some x := ⟨_, List.getElem?_eq_getElem (by omega)⟩
    obtain ⟨y, hy⟩ : ∃ y, l[1]? = some y := ⟨_, List.getElem?_eq_getElem (by omega)⟩
    obtain ⟨ad, rfl, hz⟩ := h.byte (k := 0) (by omega)
    clear hz
    have c0 := byte_0 h hx
    have c1 := byte_at h 1 (by omega) hy
    have g0 := getD_of hx
    have g1 := getD_of hy
    have HP := Lib.hid (optSize_pos (l := l))
    have HQ := Lib.hid (optSize_neg (l := l))
    rw [g0, g1] at HP HQ
    have hyl := y.toNat_lt
    obtain ⟨m, hmm⟩ : ∃ m, y.toNat = m := ⟨_, rfl⟩
    rw [hmm] at c1 HP HQ hyl
    generalize optSize l = r at HP HQ ⊢
    generalize l.length = n at *
    unfold maxLen at hm
    clear h hx hy g0 g1 hmm
    by_cases m2 : m < 2
    · have HE := Lib.hid (HP.out (.inr (.inl m2)))
      clear HP HQ
      go_enter Try.func70, Try.ntmps70
      go_wp2
      go_ret2
      rw [HE.out]
      exact ⟨rfl, rfl⟩
    by_cases mn : n < m
    · have HE := Lib.hid (HP.out (.inr (.inr (.inl mn))))
      clear HP HQ
      go_enter Try.func70, Try.ntmps70
      go_wp2
      go_ret2
      rw [HE.out]
      exact ⟨rfl, rfl⟩
    by_cases x2 : x = 2
    · subst x2
      have q0 : ((2 : UInt8).toNat : Int) = 2 := rfl
      by_cases m4 : m = 4
      · subst m4
        have HE := Lib.hid (HQ.out (by simp; omega))
        clear HP HQ
        go_enter Try.func70, Try.ntmps70
        go_wp2
        go_ret2
        rw [HE.out]
        exact ⟨rfl, rfl⟩
      · have HE := Lib.hid (HP.out (.inr (.inr (.inr ⟨rfl, m4⟩))))
        have q1 := bneT (show (m : Int) ≠ 4 by omega)
        clear HP HQ
        go_enter Try.func70, Try.ntmps70
        go_wp2
        go_ret2
        rw [HE.out]
        exact ⟨rfl, rfl⟩
    · have HE := Lib.hid (HQ.out (by simp [x2]; omega))
      have q1 := beqF (show ¬ (x.toNat : Int) = 2 by intro h; exact x2 (UInt8.toNat_inj.1 (by show x.toNat = 2; omega)))
      clear HP HQ
      go_enter Try.func70, Try.ntmps70
      go_wp2
      go_ret2
      rw [HE.out]
      exact ⟨rfl, rfl⟩

def readOpts (l : List UInt8) : Nat × Bool := match opts 0 l with
  | none => (0, false)
  | some m => (m, true)
theorem readOpts_none {l : List UInt8} (h : opts 0 l = none) : readOpts l = (0, false) := by unfold readOpts; rw [h]
theorem readOpts_some {l : List UInt8} {m : Nat} (h : opts 0 l = some m) : readOpts l = (m, true) := by unfold readOpts; rw [h]
def lenOf (v : Value) : Nat := match v with
  | .slice _ n _ => n
  | _ => 0
def badO (l : List UInt8) : Prop := l.length < 2 ∨ (l.getD 1 0).toNat < 2 ∨ l.length < (l.getD 1 0).toNat ∨ (l.getD 0 0 = 2 ∧ (l.getD 1 0).toNat ≠ 4)
theorem opts_stop {m : Nat} {l : List UInt8} {x : UInt8} (h : l[0]? = some x) (hx : x = 0) : opts m l = some m := by
  have hl := (List.getElem?_eq_some_iff.1 h).1
  rw [opts, if_pos hl, getD_of h, if_pos hx]
theorem opts_skip {m : Nat} {l : List UInt8} {x : UInt8} (h : l[0]? = some x) (hx : x = 1) : opts m l = opts m (l.drop 1) := by
  have hl := (List.getElem?_eq_some_iff.1 h).1
  rw [opts, if_pos hl, getD_of h, if_neg (by rw [hx]; decide), if_pos hx]
theorem opts_bad {m : Nat} {l : List UInt8} {x : UInt8} (h : l[0]? = some x) (h0 : x ≠ 0) (h1 : x ≠ 1) (hb : badO l) : opts m l = none := by
  have hl := (List.getElem?_eq_some_iff.1 h).1
  unfold badO at hb
  rw [getD_of h] at hb
  rw [opts, if_pos hl, getD_of h, if_neg h0, if_neg h1, if_pos hb]
theorem opts_next {m : Nat} {l : List UInt8} {x : UInt8} (h : l[0]? = some x) (h0 : x ≠ 0) (h1 : x ≠ 1) (hb : ¬ badO l) : opts m l = opts (if x = 2 then numAt l 2 else m) (l.drop (l.getD 1 0).toNat) := by
  have hl := (List.getElem?_eq_some_iff.1 h).1
  unfold badO at hb
  rw [getD_of h] at hb
  rw [opts, if_pos hl, getD_of h, if_neg h0, if_neg h1, if_neg hb]
theorem u8_ne {x y : UInt8} (h : x ≠ y) : ¬ (x.toNat : Int) = (y.toNat : Int) := fun e => h (UInt8.toNat_inj.1 (by omega))
/-- a slice's bytes from a place on -/
theorem rd_from {w : World} {lo hi : Nat} {A : Option Addr} {l : List UInt8} {c k : Nat} (h : Rd w lo hi A (cells l)) (hc : l.length ≤ c) : Rd w lo hi (if c = k then A else A.map (·.add k)) (cells (l.drop k)) := by
  split
  · rename_i hck
    rw [List.drop_eq_nil_of_le (by omega)]
    exact Rd.nil
  · rw [← cells_drop]
    exact h.drop k
set_option maxRecDepth 100000 in
set_option maxHeartbeats 2000000 in
theorem readopts_any (A : Option Addr) (l : List UInt8) (c lo hi : Nat) (w : World) (h : Rd w lo hi A (cells l)) (hhi : hi ≤ w.heap.size) (hc : l.length ≤ c) (hm : c ≤ maxLen) :
    Calls Try.prog 38 #[.slice A l.length c] w fun e w' => e = .returned (.tuple #[.int .u16 ((readOpts l).1 : Nat), .bool (readOpts l).2]) ∧ Below w.heap.size w w' := by
  unfold maxLen at hm
  go_enter Try.func38, Try.ntmps38
  go_wp2
  go_step3
  go_wp2
  go_step3
  go_wp2
  go_loopw [0, 4, 5, 6] (fun b v p q wr => ∃ (A' : Option Addr) (c' m : Nat) (l' : List UInt8), b = .slice A' l'.length c' ∧ v = .int .u16 (m : Int) ∧ l'.length ≤ c' ∧ c' ≤ c ∧ Rd wr lo hi A' (cells l') ∧ Hid (opts 0 l = opts m l') ∧ hi ≤ wr.heap.size ∧ Below w.heap.size w wr) (fun b _ _ _ _ => lenOf b)
  case atStart => exact ⟨A, c, 0, l, rfl, rfl, hc, Nat.le_refl _, h, rfl, hhi, Below.refl _ _⟩
  case round =>
    obtain ⟨A', c', m, l', rfl, rfl, hlc, hcc, hrd, HO, hhr, hbl⟩ := hrel
    clear h hhi hc
    by_cases hl0 : l'.length = 0
    · have e0 : l' = [] := List.length_eq_zero_iff.1 hl0
      subst e0
      have HE := Lib.hid (readOpts_some (HO.out.trans (opts_nil m)))
      have HB := Lib.hid hbl
      clear hrd hhr hbl HO
      go_wp2
      try rw [Exit.noGoto_ret]
      go_ret2
      rw [HE.out]
      exact ⟨rfl, HB.out⟩
    · obtain ⟨x, hx⟩ : ∃ x, l'[0]? = some x := ⟨_, List.getElem?_eq_getElem (by omega)⟩
      obtain ⟨ad, rfl, hz⟩ := hrd.byte (k := 0) (by omega)
      have c0 := byte_0 hrd hx
      clear hz
      have HR := Lib.hid hrd
      have HB := Lib.hid hbl
      have HHI := Lib.hid hhr
      have HX := Lib.hid hx
      have HSZ := Lib.hid (optsize_any (some ad) l' c' lo hi wr hrd (by unfold maxLen; omega))
      obtain ⟨n, hn⟩ : ∃ n, l'.length = n := ⟨_, rfl⟩
      have HN := Lib.hid hn
      rw [hn] at hlc hl0 HSZ ⊢
      clear hrd hbl hhr hx hn
      by_cases x0 : x = 0
      · have HE := Lib.hid (readOpts_some (HO.out.trans (opts_stop HX.out x0)))
        have q0 := beqT (show (x.toNat : Int) = 0 by rw [x0]; rfl)
        clear HSZ
        go_wp2
        try rw [Exit.noGoto_ret]
        go_ret2
        rw [HE.out]
        exact ⟨rfl, HB.out⟩
      by_cases x1 : x = 1
      · have q0 := beqF (show ¬ (x.toNat : Int) = 0 by rw [x1]; decide)
        have q1 := beqT (show (x.toNat : Int) = 1 by rw [x1]; rfl)
        have HO2 := Lib.hid (HO.out.trans (opts_skip HX.out x1))
        have HR2 := Lib.hid (rd_from (k := 1) HR.out (by rw [HN.out]; omega) (c := c'))
        clear HSZ x0 x1
        go_wp2
        go_roundw
        case rel => exact ⟨if c' = 1 then some ad else (some ad).map (·.add 1), c' - 1, m, l'.drop 1, by rw [List.length_drop, HN.out]; rfl, rfl, by rw [List.length_drop, HN.out]; omega, by omega, HR2.out, HO2.out, HHI.out, HB.out⟩
        case measure => simp [lenOf]; omega
      · have q0 := beqF (u8_ne x0)
        have q1 := beqF (u8_ne x1)
        rw [show (((0 : UInt8).toNat : Nat) : Int) = 0 from rfl] at q0
        rw [show (((1 : UInt8).toNat : Nat) : Int) = 1 from rfl] at q1
        by_cases hb : badO l'
        · have HE := Lib.hid (readOpts_none (HO.out.trans (opts_bad HX.out x0 x1 hb)))
          have HZ := Lib.hid (optSize_pos hb)
          clear hb x0 x1
          go_wp2_with fail
          refine HSZ.out.mono ?_
          rw [HZ.out]
          rintro e w1 ⟨rfl, rfl⟩
          go_wp2
          try rw [Exit.noGoto_ret]
          go_ret2
          rw [HE.out]
          exact ⟨rfl, HB.out⟩
        · have HO2 := Lib.hid (HO.out.trans (opts_next HX.out x0 x1 hb))
          have HZ := Lib.hid (optSize_neg hb)
          obtain ⟨y, hy⟩ : ∃ y, (l'.getD 1 0).toNat = y := ⟨_, rfl⟩
          have hy2 : 2 ≤ y ∧ y ≤ n ∧ (x = 2 → y = 4) := by
            unfold badO at hb
            rw [getD_of HX.out, hy, HN.out] at hb
            refine ⟨by omega, by omega, fun h2 => ?_⟩
            apply Decidable.byContradiction
            intro h4
            exact hb (.inr (.inr (.inr ⟨h2, h4⟩)))
          obtain ⟨hy3, hy4, hy5⟩ := hy2
          rw [hy] at HO2 HZ
          have HR2 := Lib.hid (rd_from (k := y) HR.out (by rw [HN.out]; omega) (c := c'))
          clear hb x0 x1 hy
          by_cases x2 : x = 2
          · have q2 := beqT (show (x.toNat : Int) = 2 by rw [x2]; rfl)
            have hy6 := hy5 x2
            subst hy6
            rw [if_pos x2] at HO2
            have hsw := sword_any (some ad) l' 2 c' lo hi wr HR.out (by rw [HN.out]; omega) (by rw [HN.out]; unfold maxLen; omega)
            rw [HN.out] at hsw
            have HSW := Lib.hid hsw
            clear x2 hsw hy5
            go_wp2_with fail
            refine HSZ.out.mono ?_
            rw [HZ.out]
            rintro e w1 ⟨rfl, rfl⟩
            go_wp2_with fail
            refine HSW.out.mono ?_
            rintro e w1 ⟨rfl, hb1⟩
            have HB1 := Lib.hid (HB.out.trans (hb1.mono HB.out.size))
            have HR3 := Lib.hid (HR2.out.below hb1 HHI.out)
            have HHI2 := Lib.hid (Nat.le_trans HHI.out hb1.size)
            clear hb1
            go_wp2
            go_roundw
            case rel => exact ⟨if c' = 4 then some ad else (some ad).map (·.add 4), c' - 4, numAt l' 2, l'.drop 4, by rw [List.length_drop, HN.out]; rfl, rfl, by rw [List.length_drop, HN.out]; omega, by omega, HR3.out, HO2.out, HHI2.out, HB1.out⟩
            case measure => simp [lenOf]; omega
          · have q2 := beqF (u8_ne x2)
            rw [show (((2 : UInt8).toNat : Nat) : Int) = 2 from rfl] at q2
            rw [if_neg x2] at HO2
            clear x2 hy5
            go_wp2_with fail
            refine HSZ.out.mono ?_
            rw [HZ.out]
            rintro e w1 ⟨rfl, rfl⟩
            go_wp2
            go_roundw
            case rel => exact ⟨if c' = y then some ad else (some ad).map (·.add y), c' - y, m, l'.drop y, by rw [List.length_drop, HN.out]; rfl, rfl, by rw [List.length_drop, HN.out]; omega, by omega, HR2.out, HO2.out, HHI.out, HB.out⟩
            case measure => simp [lenOf]; omega
end Go.Proofs.Ytjgdmkmfnkaoaaa
