/-
  The document's own answers for texts (caravelref01.Hex, Unhex): they are the plain functions of the contracts. Every text of at most a milliard bytes.
-/
import Derived.Test.YtbahkilfcfbolaaDoorUnhex
import Derived.Test.YtbahkilfcfbolaaDoorRef
import Derived.Deep.QuietTactic
import Derived.BigQuiet
import Derived.Deep.RegionWith
import Derived.StillTailTactics
namespace Go.Proofs.YtbahkilfcfbolaaDoor
open Go.RowKit

theorem digit_low (x : Nat) (w : World) (h1 : 48 ≤ x) (h2 : x ≤ 57) :
    Calls Tryd.prog 44 #[.int .u8 x] w fun e w' => e = .returned (.int .i64 (dv x)) ∧ w = w' := by
  have hd : dv x = x - 48 := by unfold dv; rw [if_pos h2]
  have HD : Hid ((x : Int) - 48 = ((dv x : Nat) : Int)) := by show _ = _; rw [hd]; omega
  clear hd
  go_enter Tryd.func44, Tryd.ntmps44
  go_wp2
  go_ret
  exact ⟨by rw [← HD.out]; rfl, rfl⟩
theorem digit_high (x : Nat) (w : World) (h1 : 97 ≤ x) (h2 : x ≤ 102) :
    Calls Tryd.prog 44 #[.int .u8 x] w fun e w' => e = .returned (.int .i64 (dv x)) ∧ w = w' := by
  have hd : dv x = x - 87 := by unfold dv; rw [if_neg (by omega)]
  have HD : Hid ((x : Int) - 97 + 10 = ((dv x : Nat) : Int)) := by show _ = _; rw [hd]; omega
  clear hd
  go_enter Tryd.func44, Tryd.ntmps44
  go_wp2
  go_ret
  exact ⟨by rw [← HD.out]; rfl, rfl⟩
theorem digit_not (x : Nat) (w : World) (h : isDig x = false) :
    Calls Tryd.prog 44 #[.int .u8 x] w fun e w' => e = .returned (.int .i64 (-1)) ∧ w = w' := by
  unfold isDig at h
  have h := of_decide_eq_false h
  rcases (show x < 48 ∨ (57 < x ∧ x < 97) ∨ 102 < x by omega) with h1 | ⟨h1, h2⟩ | h1
  all_goals
    clear h
    go_enter Tryd.func44, Tryd.ntmps44
    go_wp2
    go_ret
    exact ⟨rfl, rfl⟩
theorem digit_dig (x : Nat) (w : World) (h : isDig x = true) :
    Calls Tryd.prog 44 #[.int .u8 x] w fun e w' => e = .returned (.int .i64 (dv x)) ∧ w = w' := by
  unfold isDig at h
  rcases of_decide_eq_true h with ⟨h1, h2⟩ | ⟨h1, h2⟩
  · exact digit_low x w h1 h2
  · exact digit_high x w h1 h2

theorem ba_two (l : List UInt8) (a b : UInt8) : (⟨l.toArray⟩ : ByteArray) ++ (⟨#[a]⟩ ++ ⟨#[b]⟩) = ⟨(l ++ [a, b]).toArray⟩ := by
  apply ByteArray.ext
  simp
theorem ba_snoc (l : List UInt8) (a : UInt8) : (⟨l.toArray⟩ : ByteArray) ++ ⟨#[a]⟩ = ⟨(l ++ [a]).toArray⟩ := by
  apply ByteArray.ext
  simp
theorem digit_cut_all : ∀ q : Fin 16, ((⟨digits⟩ : ByteArray).extract q.val (q.val + 1)).data = #[dig q.val] := by decide +kernel
theorem digit_cut (q : Nat) (h : q < 16) : (⟨digits⟩ : ByteArray).extract q (q + 1) = ⟨#[dig q]⟩ := ByteArray.ext (digit_cut_all ⟨q, h⟩)

set_option maxHeartbeats 400000 in
theorem refhex_any (l : List UInt8) (w : World) (hl : l.length ≤ 1000000000) :
    Calls Tryd.prog 34 #[txt l] w fun e w' => e = .returned (txt (hexL l)) ∧ Below w.heap.size w w' := by
  go_enter Tryd.func34, Tryd.ntmps34
  go_wp2
  go_loopw [3, 4] (fun t i wr => ∃ k : Nat, k ≤ l.length ∧ i = .int .i64 k ∧ t = txt (hexL (l.take k)) ∧ Below w.heap.size w wr) (fun _ i _ => l.length - (intOf i).toNat)
  case atStart => exact ⟨0, Nat.zero_le _, rfl, rfl, Below.refl _ _⟩
  case round =>
    obtain ⟨k, hk, rfl, rfl, hbl⟩ := hrel
    by_cases hks : k < l.length
    · obtain ⟨xn, hx⟩ : ∃ xn, l[k].toNat = xn := ⟨_, rfl⟩
      have hxb : xn < 256 := by rw [← hx]; exact l[k].toNat_lt
      have hix : ∀ hh, ((⟨l.toArray⟩ : ByteArray)[k]'hh).toNat = xn := fun _ => hx
      obtain ⟨q, hq⟩ : ∃ q : Nat, xn / 16 = q := ⟨_, rfl⟩
      obtain ⟨r, hr⟩ : ∃ r : Nat, xn % 16 = r := ⟨_, rfl⟩
      have e1 : (xn : Int) / 16 = (q : Int) := by omega
      have e2 : (xn : Int) % 16 = (r : Int) := by omega
      have hq16 : (q : Int) < 16 := by omega
      have hr16 : (r : Int) < 16 := by omega
      have hdq : (⟨digits⟩ : ByteArray).extract q (q + 1) = ⟨#[dig q]⟩ := digit_cut q (by omega)
      have hdr : (⟨digits⟩ : ByteArray).extract r (r + 1) = ⟨#[dig r]⟩ := digit_cut r (by omega)
      unfold digits at hdq hdr
      have HX := Lib.hid hx
      have HQ := Lib.hid hq
      have HR := Lib.hid hr
      have hlen := hexL_length (l.take k)
      rw [List.length_take, Nat.min_eq_left hk] at hlen
      clear hx hq hr
      have HT : Hid (Value.string (⟨(hexL (l.take k)).toArray⟩ ++ (⟨#[dig q]⟩ ++ ⟨#[dig r]⟩)) = txt (hexL (l.take (k + 1)))) := by
        show _ = _
        rw [hexL_step l k hks, HX.out, HQ.out, HR.out]
        exact congrArg Value.string (ba_two _ _ _)
      go_wp2
      go_quiet (fail)
      go_wp2
      go_roundw
      case rel => exact ⟨k + 1, by omega, by go_num, HT.out, below_drewN' hbl _⟩
      case measure => simp [intOf]; omega
    · obtain rfl : k = l.length := by omega
      go_wp2
      go_ret
      exact ⟨by simp, hbl⟩

/-- the state behind k digits -/
def RuSt (l : List UInt8) (w : World) (k : Nat) (wr : World) : Prop :=
  k ≤ l.length ∧ (∀ j (hj : j < l.length), j < k → isDig l[j].toNat = true) ∧ Below w.heap.size w wr

theorem rust_step {l : List UInt8} {w wr : World} {k : Nat} (h : RuSt l w k wr) (hk : k < l.length) (hd : isDig l[k].toNat = true) : RuSt l w (k + 1) wr := by
  refine ⟨by omega, fun j hj hjk => ?_, h.2.2⟩
  rcases Nat.lt_or_ge j k with h1 | h1
  · exact h.2.1 j hj h1
  · obtain rfl : j = k := by omega
    exact hd

theorem rust_alloc {l : List UInt8} {w wr : World} {k : Nat} (h : RuSt l w k wr) (o : Obj) : RuSt l w k (wr.alloc o).drew :=
  ⟨h.1, h.2.1, (h.2.2.alloc h.2.2.size o).drew⟩
theorem nib_wrap (y x : Nat) (hy : y < 16) (hx : x < 16) : IntKind.u8.wrap (IntKind.i64.wrap (IntKind.i64.wrap (16 * (y : Int)) + (x : Int))) = ((UInt8.ofNat (16 * y + x)).toNat : Int) := by
  rw [IntWalk.i64_in (16 * (y : Int)) ⟨by omega, by omega⟩, IntWalk.i64_in _ ⟨by omega, by omega⟩, IntKind.wrap_u8', UInt8.toNat_ofNat']
  omega
theorem hexPair_at (l : List UInt8) (k : Nat) (hk : k < l.length) (ho : k % 2 = 1) : hexPair l (k / 2) = UInt8.ofNat (16 * dv l[k - 1].toNat + dv l[k].toNat) := by
  have e1 : 2 * (k / 2) = k - 1 := by omega
  have e2 : 2 * (k / 2) + 1 = k := by omega
  have e3 : l.getD k 0 = l[k] := by rw [List.getD_eq_getElem?_getD, List.getElem?_eq_getElem hk]; rfl
  have e4 : l.getD (k - 1) 0 = l[k - 1] := by rw [List.getD_eq_getElem?_getD, List.getElem?_eq_getElem (by omega)]; rfl
  unfold hexPair
  rw [e2, e1, e3, e4]

set_option maxRecDepth 100000 in
set_option maxHeartbeats 1000000 in
theorem refunhex_any (l : List UInt8) (w : World) (hl : l.length ≤ 1000000000) :
    Calls Tryd.prog 32 #[txt l] w fun e w' => e = .returned (.tuple #[txt (unhexS l).1, .int .i64 (unhexS l).2]) ∧ Below w.heap.size w w' := by
  go_enter Tryd.func32, Tryd.ntmps32
  go_wp2
  go_loopw [4, 5] (fun t i wr => ∃ k : Nat, i = .int .i64 k ∧ t = txt (unhexK l (k / 2)) ∧ RuSt l w k wr) (fun _ i _ => l.length - (intOf i).toNat)
  case atStart => exact ⟨0, rfl, rfl, Nat.zero_le _, by omega, Below.refl _ _⟩
  case round =>
    obtain ⟨k, rfl, rfl, hst⟩ := hrel
    have hk := hst.1
    have HST := Lib.hid hst
    clear hst
    have hlen := unhexK_length l (k / 2)
    have hk2 : k / 2 ≤ k := Nat.div_le_self _ _
    by_cases hks : k < l.length
    · obtain ⟨xn, hx⟩ : ∃ xn, l[k].toNat = xn := ⟨_, rfl⟩
      have hxb : xn < 256 := by rw [← hx]; exact l[k].toNat_lt
      have hix : ∀ hh, ((⟨l.toArray⟩ : ByteArray)[k]'hh).toNat = xn := fun _ => hx
      have HX := Lib.hid hx
      clear hx
      by_cases hdx : isDig xn = true
      · have HDX := Lib.hid hdx
        have hdv := dv_lt xn hdx
        clear hdx
        rcases Nat.mod_two_eq_zero_or_one k with h2 | h2
        · have hmod : (((k : Int) % 2) == 1) = false := by
            rw [beq_eq_false_iff_ne]
            omega
          have HK : Hid (k / 2 = (k + 1) / 2) := by show _ = _; omega
          clear h2
          go_wp2_with (go_at_call 44; refine (digit_dig _ _ HDX.out).mono ?_; rintro e w' ⟨rfl, rfl⟩)
          go_roundw
          case rel => exact ⟨k + 1, by go_num, by rw [HK.out], rust_step HST.out hks (by rw [HX.out]; exact HDX.out)⟩
          case measure => simp [intOf]; omega
        · have hmod : (((k : Int) % 2) == 1) = true := by
            rw [beq_iff_eq]
            omega
          have hk1 : 1 ≤ k := by omega
          have hks1 : k - 1 < l.length := by omega
          obtain ⟨yn, hy⟩ : ∃ yn, l[k - 1].toNat = yn := ⟨_, rfl⟩
          have hiy : ∀ hh, ((⟨l.toArray⟩ : ByteArray)[k - 1]'hh).toNat = yn := fun _ => hy
          have hyb : yn < 256 := by rw [← hy]; exact l[k - 1].toNat_lt
          have HDY : Hid (isDig yn = true) := by
            rw [← hy]
            exact HST.out.2.1 (k - 1) hks1 (by omega)
          have hdy := dv_lt yn HDY.out
          have HY := Lib.hid hy
          have HO := Lib.hid h2
          clear hy h2
          go_wp2_with (go_at_call 44; refine (digit_dig _ _ HDX.out).mono ?_; rintro e w' ⟨rfl, rfl⟩)
          have hdx2 := HDX.out
          have hdy2 := HDY.out
          have b0 : (0 : Int) ≤ (k : Int) - 1 := by omega
          have b1 : (k : Int) - 1 < (l.length : Int) := by omega
          have b2 : ((k : Int) - 1).toNat = k - 1 := by omega
          have b3 : IntKind.i64.wrap ((k : Int) - 1) = (k : Int) - 1 := IntWalk.i64_in _ ⟨by omega, by omega⟩
          obtain ⟨nb, hnb⟩ : ∃ nb, UInt8.ofNat (16 * dv yn + dv xn) = nb := ⟨_, rfl⟩
          have HNB := Lib.hid hnb
          clear hnb
          have hcv : (convert 68 9 (.slice (some ⟨wr.heap.size, 0, none⟩) 1 1)).run Tryd.prog (wr.alloc (.cells #[.int .u8 (IntKind.u8.wrap (IntKind.i64.wrap (IntKind.i64.wrap (16 * (dv yn : Int)) + (dv xn : Int))))] 5)).drew =
              .ok (.string ⟨#[nb]⟩) (wr.alloc (.cells #[.int .u8 (IntKind.u8.wrap (IntKind.i64.wrap (IntKind.i64.wrap (16 * (dv yn : Int)) + (dv xn : Int))))] 5)).drew := by
            rw [nib_wrap (dv yn) (dv xn) hdy hdv, HNB.out]
            exact run_text (P := Tryd.prog) (l := [nb]) _ 68 9 5 1 Tryd.underlying68 Tryd.underlying5 Tryd.underlying9 (rd_new wr (cells [nb]) 5 (0, 0)).drew
          have HT : Hid (Value.string (⟨(unhexK l (k / 2)).toArray⟩ ++ ⟨#[nb]⟩) = txt (unhexK l ((k + 1) / 2))) := by
            show _ = _
            rw [show (k + 1) / 2 = k / 2 + 1 from by have := HO.out; omega, unhexK_step, hexPair_at l k hks HO.out, HX.out, HY.out, HNB.out]
            exact congrArg Value.string (ba_snoc _ _)
          have HS2 : Hid (∀ o, RuSt l w (k + 1) (wr.alloc o).drew) := fun o => rust_alloc (rust_step HST.out hks (by rw [HX.out]; exact HDX.out)) o
          go_region_with (go_at_call 44; refine (digit_dig _ _ (by assumption)).mono ?_; rintro e w' ⟨rfl, rfl⟩)
          all_goals
            go_wp2
            go_roundw
            case rel => exact ⟨k + 1, by go_num, HT.out, HS2.out _⟩
            case measure => simp [intOf]; omega
      · have hdf : isDig xn = false := by simpa using hdx
        have HP := Lib.hid (unhexS_bad l k hks (by rw [HX.out]; exact hdf))
        have HDF := Lib.hid hdf
        clear hdx hdf
        go_wp2_with (go_at_call 44; refine (digit_not _ _ HDF.out).mono ?_; rintro e w' ⟨rfl, rfl⟩)
        go_ret2
        rw [HP.out]
        exact ⟨rfl, HST.out.2.2⟩
    · obtain rfl : k = l.length := by omega
      have hall := all_of l fun j hj => HST.out.2.1 j hj hj
      rcases Nat.mod_two_eq_zero_or_one l.length with h2 | h2
      · have hmod : (((l.length : Int) % 2) == 1) = false := by
          rw [beq_eq_false_iff_ne]
          omega
        have HP : Hid (unhexS l = (unhexK l (l.length / 2), 0)) := by
          show _ = _
          unfold unhexS
          rw [if_pos hall, if_neg (by omega)]
        clear h2 hall
        go_wp2
        go_ret2
        rw [HP.out]
        exact ⟨rfl, HST.out.2.2⟩
      · have hmod : (((l.length : Int) % 2) == 1) = true := by
          rw [beq_iff_eq]
          omega
        have HP : Hid (unhexS l = ([], 6)) := by
          show _ = _
          unfold unhexS
          rw [if_pos hall, if_pos h2]
        clear h2 hall
        go_wp2
        go_ret2
        rw [HP.out]
        exact ⟨rfl, HST.out.2.2⟩
end Go.Proofs.YtbahkilfcfbolaaDoor
