/-
  The document's four, num, options: their answers, for every text that is long enough. No condition.
-/
import Derived.Test.YtjgdmkmfnkaoaaaOpt
namespace Go.Proofs.Ytjgdmkmfnkaoaaa
open Go.RowKit

set_option maxRecDepth 100000 in
set_option maxHeartbeats 400000 in
theorem rfour_any (n : Nat) (w : World) (hn : n < 4294967296) : Calls Try.prog 34 #[.int .u32 n] w fun e w' => e = .returned (txt (four n)) ∧ Below w.heap.size w w' := by
  have h1 : (n : Int) / 65536 = ((n / 65536 : Nat) : Int) := by omega
  have h2 : (n : Int) % 65536 = ((n % 65536 : Nat) : Int) := by omega
  have HT : Hid (four n = two (n / 65536) ++ two (n % 65536)) := rfl
  have b1 : n / 65536 < 65536 := by omega
  have b2 : n % 65536 < 65536 := by omega
  generalize n / 65536 = x at h1 HT b1
  generalize n % 65536 = y at h2 HT b2
  have HX := Lib.hid (fun w => refword_any x w b1)
  have HY := Lib.hid (fun w => refword_any y w b2)
  have HA : Hid ((⟨(two x).toArray⟩ : ByteArray) ++ ⟨(two y).toArray⟩ = ⟨(two x ++ two y).toArray⟩) := str_app _ _
  have hx2 := two_length x
  have hy2 := two_length y
  generalize two x = tx at *
  generalize two y = ty at *
  go_enter Try.func34, Try.ntmps34
  go_wp2_with fail
  refine (HX.out w).mono ?_
  rintro e w1 ⟨rfl, hb1⟩
  have HB1 := Lib.hid hb1
  clear hb1
  unfold txt
  go_wp2_with fail
  refine (HY.out w1).mono ?_
  rintro e w2 ⟨rfl, hb2⟩
  have HB2 := Lib.hid (HB1.out.trans (hb2.mono HB1.out.size))
  clear hb2
  unfold txt
  go_wp2
  go_ret
  exact ⟨by rw [HT.out]; exact congrArg Ending.returned (congrArg Value.string HA.out), HB2.out⟩
set_option maxRecDepth 100000 in
set_option maxHeartbeats 400000 in
theorem rnum_any (l : List UInt8) (k : Nat) (w : World) (hk : k + 3 < l.length) (hm : l.length ≤ maxLen) :
    Calls Try.prog 44 #[txt l, .int .i64 k] w fun e w' => e = .returned (.int .u32 (num4 l k : Nat)) ∧ Below w.heap.size w w' := by
  have H1 := Lib.hid (fun w => num_any l k w (by omega) hm)
  have H2 : Hid (∀ w', Calls Try.prog 43 #[txt l, .int .i64 ((k : Int) + 2)] w' fun e w'' => e = .returned (.int .i64 (numAt l (k + 2) : Nat)) ∧ Below w'.heap.size w' w'') := fun w' => by
    have := num_any l (k + 2) w' (by omega) hm
    rwa [show ((k + 2 : Nat) : Int) = (k : Int) + 2 from by omega] at this
  have HV : Hid (num4 l k = numAt l k * 65536 + numAt l (k + 2)) := rfl
  have b1 := numAt_le l k
  have b2 := numAt_le l (k + 2)
  generalize numAt l k = x at *
  generalize numAt l (k + 2) = y at *
  unfold maxLen at hm
  go_enter Try.func44, Try.ntmps44
  go_wp2_with fail
  refine (H1.out w).mono ?_
  rintro e w1 ⟨rfl, hb⟩
  have HB := Lib.hid hb
  clear hb
  go_wp2_with fail
  refine (H2.out w1).mono ?_
  rintro e w2 ⟨rfl, hb2⟩
  have HB2 := Lib.hid (HB.out.trans (hb2.mono HB.out.size))
  clear hb2
  go_wp2
  go_ret
  exact ⟨by rw [HV.out]; rfl, HB2.out⟩
theorem drop_at {l : List UInt8} {i k : Nat} {x : UInt8} (h : l[i + k]? = some x) : (l.drop i)[k]? = some x := by rw [List.getElem?_drop]; exact h
theorem numAt_drop (l : List UInt8) (i k : Nat) : numAt (l.drop i) k = numAt l (i + k) := by
  unfold numAt
  simp only [List.getD_eq_getElem?_getD, List.getElem?_drop, Nat.add_assoc]
set_option maxRecDepth 100000 in
set_option maxHeartbeats 4000000 in
theorem ropts_any (l : List UInt8) (w : World) (hl : l.length ≤ 1000) :
    Calls Try.prog 42 #[txt l] w fun e w' => e = .returned (.tuple #[.int .u16 ((readOpts l).1 : Nat), .bool (readOpts l).2]) ∧ Below w.heap.size w w' := by
  unfold txt
  go_enter Try.func42, Try.ntmps42
  go_wp2
  go_loopw [4, 5] (fun v i wr => ∃ (k m : Nat), i = .int .i64 (k : Int) ∧ v = .int .u16 (m : Int) ∧ k ≤ l.length ∧ Hid (opts 0 l = opts m (l.drop k)) ∧ Below w.heap.size w wr) (fun _ i _ => l.length - (intOf i).toNat)
  case atStart => exact ⟨0, 0, rfl, rfl, Nat.zero_le _, rfl, Below.refl _ _⟩
  case round =>
    obtain ⟨k, m, rfl, rfl, hk, HO, hbl⟩ := hrel
    have HB := Lib.hid hbl
    clear hbl
    by_cases hkl : k = l.length
    · have HE := Lib.hid (readOpts_some (HO.out.trans (by rw [List.drop_eq_nil_of_le (by omega)]; exact opts_nil m)))
      subst hkl
      go_wp2
      go_ret2
      rw [HE.out]
      exact ⟨rfl, HB.out⟩
    · have i5 : k < l.length := by omega
      obtain ⟨x, hx⟩ : ∃ x, l[k] = x := ⟨_, rfl⟩
      have hx1 : (l.drop k)[0]? = some x := drop_at (by rw [Nat.add_zero, List.getElem?_eq_getElem i5, hx])
      have HX := Lib.hid hx1
      have i0 : (0 : Int) ≤ (k : Int) := by omega
      have i1 : (k : Int) < (l.length : Int) := by omega
      have hx2 : (⟨l.toArray⟩ : ByteArray)[k]'(by show k < l.length; exact i5) = x := hx
      clear hx hx1 hkl
      by_cases x0 : x = 0
      · have HE := Lib.hid (readOpts_some (HO.out.trans (opts_stop HX.out x0)))
        have q0 := bneF (show (x.toNat : Int) = 0 by rw [x0]; rfl)
        go_wp2
        go_ret2
        rw [HE.out]
        exact ⟨rfl, HB.out⟩
      by_cases x1 : x = 1
      · have q0 := bneT (show (x.toNat : Int) ≠ 0 by rw [x1]; decide)
        have q1 := beqT (show (x.toNat : Int) = 1 by rw [x1]; rfl)
        have HO2 := Lib.hid (HO.out.trans (opts_skip HX.out x1))
        rw [List.drop_drop] at HO2
        clear x0 x1
        go_wp2
        go_roundw
        case rel => exact ⟨k + 1, m, by go_num, rfl, by omega, HO2.out, HB.out⟩
        case measure => simp [intOf]; omega
      have q0 := bneT (u8_ne x0)
      have q1 := beqF (u8_ne x1)
      rw [show (((0 : UInt8).toNat : Nat) : Int) = 0 from rfl] at q0
      rw [show (((1 : UInt8).toNat : Nat) : Int) = 1 from rfl] at q1
      have i4 : ((k : Int) + 1).toNat = k + 1 := by omega
      have i2 : (0 : Int) ≤ (k : Int) + 1 := by omega
      by_cases h2 : l.length ≤ k + 1
      · have HE := Lib.hid (readOpts_none (HO.out.trans (opts_bad HX.out x0 x1 (.inl (by rw [List.length_drop]; omega)))))
        clear x0 x1
        go_wp2
        go_ret2
        rw [HE.out]
        exact ⟨rfl, HB.out⟩
      have i6 : k + 1 < l.length := by omega
      have i3 : (k : Int) + 1 < (l.length : Int) := by omega
      obtain ⟨y, hy⟩ : ∃ y, l[k + 1] = y := ⟨_, rfl⟩
      have hy2 : (⟨l.toArray⟩ : ByteArray)[k + 1]'(by show k + 1 < l.length; exact i6) = y := hy
      have hy1 : (l.drop k)[1]? = some y := drop_at (by rw [List.getElem?_eq_getElem i6, hy])
      have HY : Hid (((l.drop k).getD 1 0) = y) := getD_of hy1
      have hyl := y.toNat_lt
      clear hy hy1 h2
      by_cases hb : badO (l.drop k)
      · have HE := Lib.hid (readOpts_none (HO.out.trans (opts_bad HX.out x0 x1 hb)))
        have hcase : y.toNat < 2 ∨ (2 ≤ y.toNat ∧ (l.length : Int) < (k : Int) + (y.toNat : Int)) ∨ (2 ≤ y.toNat ∧ (k : Int) + (y.toNat : Int) ≤ (l.length : Int) ∧ x = 2 ∧ y.toNat ≠ 4) := by
          unfold badO at hb
          rw [getD_of HX.out, HY.out, List.length_drop] at hb
          by_cases a1 : y.toNat < 2
          · exact .inl a1
          · by_cases a2 : (l.length : Int) < (k : Int) + (y.toNat : Int)
            · exact .inr (.inl ⟨by omega, a2⟩)
            · rcases hb with h | h | h | h
              · omega
              · omega
              · omega
              · exact .inr (.inr ⟨by omega, by omega, h⟩)
        clear hb x0 x1
        rcases hcase with a1 | ⟨a1, a2⟩ | ⟨a1, a2, rfl, a3⟩
        · go_wp2
          go_ret2
          rw [HE.out]
          exact ⟨rfl, HB.out⟩
        · go_wp2
          go_ret2
          rw [HE.out]
          exact ⟨rfl, HB.out⟩
        · have q3 : ((2 : UInt8).toNat : Int) = 2 := rfl
          have q4 := bneT (show (y.toNat : Int) ≠ 4 by omega)
          go_wp2
          go_ret2
          rw [HE.out]
          exact ⟨rfl, HB.out⟩
      · have HO2 := Lib.hid (HO.out.trans (opts_next HX.out x0 x1 hb))
        rw [HY.out, List.drop_drop, numAt_drop] at HO2
        have hcase : 2 ≤ y.toNat ∧ (k : Int) + (y.toNat : Int) ≤ (l.length : Int) ∧ (x = 2 → y.toNat = 4) := by
          unfold badO at hb
          rw [getD_of HX.out, HY.out, List.length_drop] at hb
          refine ⟨by omega, by omega, fun h => ?_⟩
          apply Decidable.byContradiction
          intro h4
          exact hb (.inr (.inr (.inr ⟨h, h4⟩)))
        obtain ⟨a1, a2, a3⟩ := hcase
        have HN := Lib.hid (fun w => num_any l (k + 2) w)
        clear hb x0 x1
        by_cases x2 : x = 2
        · have q2 := beqT (show (x.toNat : Int) = 2 by rw [x2]; rfl)
          have a4 := a3 x2
          rw [if_pos x2] at HO2
          rw [a4] at HO2 a2 hyl
          have HNN : Hid (∀ w, Calls Try.prog 43 #[.string ⟨l.toArray⟩, .int .i64 ((k : Int) + 2)] w fun e w' => e = .returned (.int .i64 (numAt l (k + 2) : Nat)) ∧ Below w.heap.size w w') := fun w => by
            have := num_any l (k + 2) w (by omega) (by unfold maxLen; omega)
            rw [show ((k + 2 : Nat) : Int) = (k : Int) + 2 from by omega] at this
            exact this
          have bq := numAt_le l (k + 2)
          obtain ⟨nq, hnq⟩ : ∃ nq, numAt l (k + 2) = nq := ⟨_, rfl⟩
          rw [hnq] at HO2 HNN bq
          have hw : IntKind.u16.wrap (nq : Int) = (nq : Int) := IntWalk.u16_in _ ⟨by omega, by omega⟩
          have qy : (y.toNat : Int) = 4 := by omega
          clear x2 a3 hnq HN
          go_wp2_with fail
          refine (HNN.out wr).mono ?_
          rintro e w1 ⟨rfl, hb1⟩
          have HB1 := Lib.hid (HB.out.trans (hb1.mono HB.out.size))
          clear hb1
          go_wp2
          go_roundw
          case rel => exact ⟨k + 4, nq, by go_num, rfl, by omega, HO2.out, HB1.out⟩
          case measure => simp [intOf]; omega
        · have q2 := beqF (u8_ne x2)
          rw [show (((2 : UInt8).toNat : Nat) : Int) = 2 from rfl] at q2
          rw [if_neg x2] at HO2
          clear x2 a3 HN
          go_wp2
          go_roundw
          case rel => exact ⟨k + y.toNat, m, by go_num, rfl, by omega, HO2.out, HB.out⟩
          case measure => simp [intOf]; omega
end Go.Proofs.Ytjgdmkmfnkaoaaa
