/-
  cksum.add, other, Fold, Sum, Right (not Adjust: for seats without it): their answers, for all parts that can be read; nothing is turned.
-/
import Derived.Test.YtjgdmkmfnkaoaaaMem
import Derived.Test.YtjgdmkmfnkaoaaaSum
namespace Go.Proofs.Ytjgdmkmfnkaoaaa
open Go.RowKit

/-- the values vs are slices of the bytes of ps, that can be read -/
def Pts (w : World) (lo hi : Nat) (vs : List Value) (ps : List (List UInt8)) : Prop :=
  vs.length = ps.length ∧ ∀ (i : Nat) (p : List UInt8), ps[i]? = some p → ∃ A c, vs[i]? = some (.slice A p.length c) ∧ Rd w lo hi A (cells p)

theorem pts_nil {w : World} {lo hi : Nat} : Pts w lo hi [] [] := ⟨rfl, by simp⟩
theorem pts_cons {w : World} {lo hi n c : Nat} {A : Option Addr} {p : List UInt8} {vs : List Value} {ps : List (List UInt8)} (h : Rd w lo hi A (cells p)) (hn : p.length = n) (hp : Pts w lo hi vs ps) : Pts w lo hi (.slice A n c :: vs) (p :: ps) := by
  subst hn
  refine ⟨by simp [hp.1], fun i q hq => ?_⟩
  rcases i with _ | i
  · cases hq
    exact ⟨A, c, rfl, h⟩
  · exact hp.2 i q hq
/-- a new block, by its number -/
theorem rd_at (w : World) (cs : List Value) (t : TypeId) (fr : Nat × Nat) (b : Nat) (hb : b = w.heap.size) : Rd (w.alloc (.cells cs.toArray t fr)) b (b + 1) (some ⟨b, 0, none⟩) cs := by
  subst hb
  exact rd_new w cs t fr
theorem bal {w W : World} (h : Below w.heap.size w W) (o : Obj) : Below w.heap.size w (W.alloc o) := h.alloc h.size o
theorem ba_app (l m : List UInt8) : (⟨l.toArray⟩ : ByteArray) ++ ⟨m.toArray⟩ = ⟨(l ++ m).toArray⟩ := by
  apply ByteArray.ext
  simp

theorem ret_i {k : IntKind} {a b : Int} (h : a = b) : Ending.returned (.int k a) = .returned (.int k b) := by rw [h]

theorem add_any (a b : Nat) (w : World) (ha : a ≤ 65535) (hb : b ≤ 65535) :
    Calls Try.prog 79 #[.int .u16 a, .int .u16 b] w fun e w' => e = .returned (.int .u16 (add16 a b : Nat)) ∧ w = w' := by
  by_cases h : 65535 < a + b
  · have e : add16 a b = a + b - 65535 := by unfold add16; rw [if_pos h]
    have hi : (65535 : Int) < (a : Int) + (b : Int) := by omega
    rw [e]
    clear e h
    go_enter Try.func79, Try.ntmps79
    go_wp2
    go_ret
    exact ⟨ret_i (by omega), rfl⟩
  · have e : add16 a b = a + b := by unfold add16; rw [if_neg h]
    have hi : (a : Int) + (b : Int) ≤ (65535 : Int) := by omega
    rw [e]
    clear e h
    go_enter Try.func79, Try.ntmps79
    go_wp2
    go_ret
    exact ⟨ret_i (by omega), rfl⟩
theorem add_hi (a c : Nat) (w : World) (ha : a ≤ 65535) (hb : c < 256) :
    Calls Try.prog 79 #[.int .u16 a, .int .u16 ((c : Int) * 256)] w fun e w' => e = .returned (.int .u16 (add16 a (256 * c) : Nat)) ∧ w = w' := by
  have h := add_any a (256 * c) w ha (by omega)
  rwa [show ((256 * c : Nat) : Int) = (c : Int) * 256 from by omega] at h
theorem other_any (a : Nat) (w : World) (ha : a ≤ 65535) :
    Calls Try.prog 66 #[.int .u16 a] w fun e w' => e = .returned (.int .u16 (65535 - a : Nat)) ∧ w = w' := by
  go_enter Try.func66, Try.ntmps66
  go_wp2
  go_ret
  exact ⟨ret_i (by omega), rfl⟩

set_option maxHeartbeats 1000000 in
theorem fold_some (ad : Addr) (vs : List Value) (ps : List (List UInt8)) (c lo hi lo' hi' : Nat) (w : World) (hv : Rd w lo hi (some ad) vs) (hp : Pts w lo' hi' vs ps) (hn : ps.length ≤ 1000) (hl : ∀ p ∈ ps, p.length ≤ maxLen) :
    Calls Try.prog 67 #[.slice (some ad) ps.length c] w fun e w' => e = .returned (.int .u16 (sumL ps.flatten : Nat)) ∧ w = w' := by
  go_enter Try.func67, Try.ntmps67
  go_wp2
  go_loop [3, 4, 12] (fun s b i => ∃ (k : Nat) (pre : List UInt8), k ≤ ps.length ∧ i = .int .i64 k ∧ s = .int .u16 (sumL pre : Nat) ∧ b = .bool (par pre) ∧ Hid (pre = (ps.take k).flatten)) (fun _ _ i => ps.length - (intOf i).toNat)
  case atStart => exact ⟨0, [], Nat.zero_le _, rfl, rfl, rfl, by show _ = _; simp⟩
  case round =>
    obtain ⟨k, pre, hk, rfl, rfl, rfl, HP⟩ := hrel
    by_cases hks : k < ps.length
    · obtain ⟨A, c', hvk, hrd⟩ := hp.2 k ps[k] (List.getElem?_eq_getElem hks)
      obtain ⟨ad', e, _, _, hcell⟩ := hv k _ hvk
      cases e
      have hlk := hl ps[k] (List.getElem_mem hks)
      obtain ⟨p, hpk⟩ : ∃ p, ps[k] = p := ⟨_, rfl⟩
      rw [hpk] at hcell hrd hlk
      have HPK := Lib.hid hpk
      have hb := sumL_le pre
      unfold maxLen at hlk
      clear hvk hpk
      obtain ⟨s0, hs0⟩ : ∃ s0, sumL pre = s0 := ⟨_, rfl⟩
      obtain ⟨b0, hb0⟩ : ∃ b0, par pre = b0 := ⟨_, rfl⟩
      rw [hs0] at hb
      rw [hs0, hb0]
      have HS0 := Lib.hid hs0
      have HB0 := Lib.hid hb0
      clear hs0 hb0
      go_wp2
      go_loop [3, 4, 18] (fun s b i => ∃ (j s1 : Nat) (b1 : Bool), j ≤ p.length ∧ i = .int .i64 j ∧ s = .int .u16 (s1 : Nat) ∧ b = .bool b1 ∧ s1 ≤ 65535 ∧ Hid (s1 = sumL (pre ++ p.take j)) ∧ Hid (b1 = par (pre ++ p.take j))) (fun _ _ i => p.length - (intOf i).toNat)
      case atStart => exact ⟨0, s0, b0, Nat.zero_le _, rfl, rfl, rfl, hb, by show _ = _; simp [HS0.out], by show _ = _; simp [HB0.out]⟩
      case round =>
        obtain ⟨j, s1, b1, hj, rfl, rfl, rfl, hs1, HS1, HB1⟩ := hrel
        by_cases hjs : j < p.length
        · obtain ⟨ad2, e2, hc2⟩ := hrd.byte hjs
          have ht := List.take_succ_eq_append_getElem hjs
          obtain ⟨x, hx⟩ : ∃ x, p[j] = x := ⟨_, rfl⟩
          rw [hx] at hc2 ht
          have hxl := x.toNat_lt
          have HT : Hid (pre ++ p.take (j + 1) = (pre ++ p.take j) ++ [x]) := by show _ = _; rw [ht, List.append_assoc]
          clear hx ht
          rw [e2]
          cases b1
          · have HS2 : Hid (add16 s1 x.toNat = sumL (pre ++ p.take (j + 1))) := by show _ = _; rw [HT.out, sumL_lo _ _ HB1.out.symm, HS1.out]
            have HB2 : Hid (true = par (pre ++ p.take (j + 1))) := by show _ = _; rw [HT.out, par_snoc, ← HB1.out]; rfl
            have ha := add16_le s1 x.toNat hs1 (by omega)
            go_wp2_with (go_at_call 79; refine (add_any s1 x.toNat _ hs1 (by omega)).mono ?_; rintro e w1 ⟨rfl, rfl⟩)
            go_round
            case rel => exact ⟨j + 1, _, _, by omega, by go_num, rfl, rfl, ha, HS2, HB2⟩
            case measure => simp [intOf]; omega
          · have HS2 : Hid (add16 s1 (256 * x.toNat) = sumL (pre ++ p.take (j + 1))) := by show _ = _; rw [HT.out, sumL_hi _ _ HB1.out.symm, HS1.out]
            have HB2 : Hid (false = par (pre ++ p.take (j + 1))) := by show _ = _; rw [HT.out, par_snoc, ← HB1.out]; rfl
            have ha := add16_le s1 (256 * x.toNat) hs1 (by omega)
            go_wp2_with (go_at_call 79; refine (add_hi s1 x.toNat _ hs1 (by omega)).mono ?_; rintro e w1 ⟨rfl, rfl⟩)
            go_round
            case rel => exact ⟨j + 1, _, _, by omega, by go_num, rfl, rfl, ha, HS2, HB2⟩
            case measure => simp [intOf]; omega
        · obtain rfl : j = p.length := by omega
          have HS2 : Hid (s1 = sumL (pre ++ p)) := by show _ = _; rw [HS1.out, List.take_length]
          have HB2 : Hid (b1 = par (pre ++ p)) := by show _ = _; rw [HB1.out, List.take_length]
          have HP2 : Hid (pre ++ p = (ps.take (k + 1)).flatten) := by show _ = _; rw [List.take_succ_eq_append_getElem hks, List.flatten_append, HP.out, HPK.out]; simp
          go_wp2
          go_round
          case rel => exact ⟨k + 1, pre ++ p, by omega, by go_num, by rw [HS2.out], by rw [HB2.out], HP2⟩
          case measure => simp [intOf]; omega
    · obtain rfl : k = ps.length := by omega
      have HP2 : Hid (sumL pre = sumL ps.flatten) := by show _ = _; rw [HP.out, List.take_length]
      go_wp2
      go_ret
      exact ⟨by rw [HP2.out]; rfl, rfl⟩

theorem fold_none (c : Nat) (w : World) : Calls Try.prog 67 #[.slice none 0 c] w fun e w' => e = .returned (.int .u16 0) ∧ w = w' := by
  go_enter Try.func67, Try.ntmps67
  go_wp2
  refine wp_loop_rounds 1 ?_
  rw [rounds_succ]
  go_wp2
  go_ret
  exact ⟨rfl, rfl⟩
/-- cksum.Fold: of all parts that can be read, of which there are a thousand at most -/
theorem fold_any (ad : Addr) (vs : List Value) (ps : List (List UInt8)) (c lo hi lo' hi' n : Nat) (l : List UInt8) (w : World) (hv : Rd w lo hi (some ad) vs) (hp : Pts w lo' hi' vs ps) (hc : ps.length = n) (hn : n ≤ 1000) (hl : ∀ p ∈ ps, p.length ≤ maxLen) (he : ps.flatten = l) :
    Calls Try.prog 67 #[.slice (some ad) n c] w fun e w' => e = .returned (.int .u16 (sumL l : Nat)) ∧ w = w' := by
  subst hc he
  exact fold_some ad vs ps c lo hi lo' hi' w hv hp hn hl
theorem sum_any (ad : Addr) (vs : List Value) (ps : List (List UInt8)) (c lo hi lo' hi' n : Nat) (l : List UInt8) (w : World) (hv : Rd w lo hi (some ad) vs) (hp : Pts w lo' hi' vs ps) (hc : ps.length = n) (hn : n ≤ 1000) (hl : ∀ p ∈ ps, p.length ≤ maxLen) (he : ps.flatten = l) :
    Calls Try.prog 31 #[.slice (some ad) n c] w fun e w' => e = .returned (.int .u16 (65535 - sumL l : Nat)) ∧ w = w' := by
  have HF := Lib.hid (fold_any ad vs ps c lo hi lo' hi' n l w hv hp hc hn hl he)
  have HL := sumL_le l
  clear hc hp hl he
  go_enter Try.func31, Try.ntmps31
  go_wp2_with (first | (go_at_call 67; refine HF.out.mono ?_; rintro e w1 ⟨rfl, rfl⟩) | (go_at_call 66; refine (other_any _ _ HL).mono ?_; rintro e w1 ⟨rfl, rfl⟩))
  go_ret
  exact ⟨rfl, rfl⟩
theorem right_any (ad : Addr) (vs : List Value) (ps : List (List UInt8)) (c lo hi lo' hi' n : Nat) (l : List UInt8) (w : World) (hv : Rd w lo hi (some ad) vs) (hp : Pts w lo' hi' vs ps) (hc : ps.length = n) (hn : n ≤ 1000) (hl : ∀ p ∈ ps, p.length ≤ maxLen) (he : ps.flatten = l) :
    Calls Try.prog 37 #[.slice (some ad) n c] w fun e w' => e = .returned (.bool (((sumL l : Nat) : Int) == 65535)) ∧ w = w' := by
  have HF := Lib.hid (fold_any ad vs ps c lo hi lo' hi' n l w hv hp hc hn hl he)
  generalize sumL l = s at HF ⊢
  clear hc hp hl he
  go_enter Try.func37, Try.ntmps37
  go_wp2_with (first | (go_at_call 67; refine HF.out.mono ?_; rintro e w1 ⟨rfl, rfl⟩))
  go_ret
  exact ⟨rfl, rfl⟩
theorem other_zero (w : World) : Calls Try.prog 66 #[.int .u16 0] w fun e w' => e = .returned (.int .u16 65535) ∧ w = w' := other_any 0 w (by omega)
theorem sum_none (w : World) : Calls Try.prog 31 #[.slice none 0 0] w fun e w' => e = .returned (.int .u16 65535) ∧ w = w' := by
  go_enter Try.func31, Try.ntmps31
  go_wp2_with fail
  refine (fold_none _ _).mono ?_
  rintro e w1 ⟨rfl, rfl⟩
  go_wp2_with fail
  refine (other_zero _).mono ?_
  rintro e w1 ⟨rfl, rfl⟩
  go_wp2_with fail
  go_ret
  exact ⟨rfl, rfl⟩
end Go.Proofs.Ytjgdmkmfnkaoaaa
