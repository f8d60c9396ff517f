/-
  The document's runs and front of layer 17. Every list of numbers of at most a thousand that can be read.
-/
import Derived.Test.YtdgfhcojmfgimaaRfb
namespace Go.Proofs.Ytdgfhcojmfgimaa
open Go.RowKit

theorem runs_snoc : ∀ (m : List Int) (a b : Int), runsN (m ++ [a, b]) = runsN (m ++ [a]) + (if 0 ≤ b ∧ a < 0 then 1 else 0)
  | [], a, b => by simp [runsN]
  | [x], a, b => by simp only [List.cons_append, List.nil_append, runsN]; omega
  | x :: y :: m, a, b => by
    have := runs_snoc (y :: m) a b
    simp only [List.cons_append, runsN] at this ⊢
    rw [this]
    omega
theorem runs_take {l : List Int} {i : Nat} {a b : Int} (ha : l[i]? = some a) (hb : l[i + 1]? = some b) : runsN (l.take (i + 1 + 1)) = runsN (l.take (i + 1)) + (if 0 ≤ b ∧ a < 0 then 1 else 0) := by
  rw [take_snoc2 ha, take_snoc2 hb, take_snoc2 ha, List.append_assoc]
  exact runs_snoc _ a b
where
  take_snoc2 {l : List Int} {i : Nat} {a : Int} (ha : l[i]? = some a) : l.take (i + 1) = l.take i ++ [a] := by
    have hi := (List.getElem?_eq_some_iff.1 ha).1
    rw [List.take_succ_eq_append_getElem hi, (List.getElem?_eq_some_iff.1 ha).2]
theorem runs_one (a : Int) : runsN [a] = 0 := rfl
theorem add_out (ad : Addr) {i : Nat} (h : i ≠ 0) : ad.add i = ⟨ad.block, ad.off + i, none⟩ := by
  unfold Addr.add
  rw [if_neg h]
theorem rds_at {w : World} {S : Nat → Prop} {A : Option Addr} {l : List Int} (h : RdS w S A (intsV l)) {i : Nat} {z : Int} (hz : l[i]? = some z) : ∃ ad, A = some ad ∧ w.cell? (ad.add i) = some (.int .i64 z) := by
  obtain ⟨ad, e, _, hc⟩ := h i _ (intsV_get hz)
  exact ⟨ad, e, hc⟩
set_option maxRecDepth 100000 in
set_option maxHeartbeats 1000000 in
theorem refruns_any (v : Value) (l : List Int) (S : Nat → Prop) (w : World) (hv : Rv w S v (intsD l)) (hl : l.length ≤ 1000) : Calls Try.prog 31 #[v] w fun e w' => e = .returned (.int .i64 (runsN l : Int)) ∧ Below w.heap.size w w' := by
  obtain ⟨A, c, rfl, hrd, hA, hc, hm⟩ := rv_ints.1 hv
  obtain ⟨n, hn⟩ : ∃ n, l.length = n := ⟨_, rfl⟩
  rw [hn] at hl hc ⊢
  have hm2 : c ≤ 9223372036854775807 := by unfold maxLen at hm; omega
  have HN := Lib.hid hn
  have HR := Lib.hid hrd
  have h01 : Hid (runsN (l.take 1) = 0) := by
    show _ = _
    rcases l with _ | ⟨a, l⟩ <;> simp [runsN]
  have hend : Hid (∀ i, 1 ≤ i → n ≤ i → runsN (l.take i) = runsN l) := fun i _ h => by rw [List.take_of_length_le (by rw [HN.out]; exact h)]
  clear hn hrd hA hm hv
  go_enter Try.func31, Try.ntmps31
  go_wp2
  go_loop [3, 4] (fun t3 t4 => ∃ i k : Nat, 1 ≤ i ∧ (i ≤ n ∨ i = 1) ∧ t4 = .int .i64 (i : Int) ∧ t3 = .int .i64 (k : Int) ∧ k < i ∧ Hid (runsN (l.take i) = k)) (fun _ t4 => n - (intOf t4).toNat)
  case atStart => exact ⟨1, 0, by omega, .inr rfl, rfl, rfl, by omega, h01⟩
  case round =>
    obtain ⟨i, k, h1, hin, rfl, rfl, hki, HK⟩ := hrel
    by_cases hlt : i < n
    · obtain ⟨j, rfl⟩ : ∃ j, i = j + 1 := ⟨i - 1, by omega⟩
      obtain ⟨b, hb⟩ : ∃ b, l[j + 1]? = some b := ⟨_, List.getElem?_eq_getElem (by rw [HN.out]; exact hlt)⟩
      obtain ⟨a, ha⟩ : ∃ a, l[j]? = some a := ⟨_, List.getElem?_eq_getElem (by rw [HN.out]; omega)⟩
      obtain ⟨ad, rfl, hcb⟩ := rds_at HR.out hb
      obtain ⟨ad', hadd, hca⟩ := rds_at HR.out ha
      injection hadd with hadd
      subst hadd
      have hcb' := hcb
      rw [add_out ad (Nat.succ_ne_zero j)] at hcb'
      have HS := Lib.hid (runs_take ha hb)
      have hsub : ((j + 1 : Nat) : Int) - 1 = (j : Int) := by omega
      have hj0 : (0 : Int) ≤ (j : Int) := by omega
      have hjn : (j : Int) < (n : Int) := by omega
      have hjm : j < n := by omega
      clear ha hb
      rcases Int.lt_or_le b 0 with hbs | hbs
      · have HK2 : Hid (runsN (l.take (j + 1 + 1)) = k) := by
          show _ = _
          rw [HS.out, HK.out, if_neg (by omega), Nat.add_zero]
        go_wp2
        go_round
        case rel => exact ⟨j + 1 + 1, k, by omega, .inl (by omega), by go_num, rfl, by omega, HK2⟩
        case measure => simp [intOf]; omega
      · rcases Int.lt_or_le a 0 with has | has
        · have HK2 : Hid (runsN (l.take (j + 1 + 1)) = k + 1) := by
            show _ = _
            rw [HS.out, HK.out, if_pos ⟨hbs, has⟩]
          go_wp2
          go_round
          case rel => exact ⟨j + 1 + 1, k + 1, by omega, .inl (by omega), by go_num, by go_num, by omega, HK2⟩
          case measure => simp [intOf]; omega
        · have HK2 : Hid (runsN (l.take (j + 1 + 1)) = k) := by
            show _ = _
            rw [HS.out, HK.out, if_neg (by omega), Nat.add_zero]
          have ha0 : ¬ a < 0 := by omega
          go_wp2
          go_round
          case rel => exact ⟨j + 1 + 1, k, by omega, .inl (by omega), by go_num, rfl, by omega, HK2⟩
          case measure => simp [intOf]; omega
    · have HE := hend.out i h1 (by omega)
      rw [HK.out] at HE
      have HE := Lib.hid HE
      go_wp2
      go_ret
      rw [← HE.out]
      exact ⟨rfl, Below.refl _ _⟩

theorem run_one (w : World) (b : UInt8) : (convert 26 9 (.slice (some ⟨w.heap.size, 0, none⟩) 1 1)).run Try.prog (w.alloc (.cells #[.int .u8 (b.toNat : Int)] 5)) = .ok (.string ⟨#[b]⟩) (w.alloc (.cells #[.int .u8 (b.toNat : Int)] 5)) :=
  run_text (P := Try.prog) (l := [b]) _ 26 9 5 1 Try.underlying26 Try.underlying5 Try.underlying9 (rd_new w (cells [b]) 5 (0, 0))
theorem front_stop {l : List Int} {i : Nat} (hy : ∀ j h, j < i → l[j]? = some h → 0 ≤ h) (hi : i ≤ l.length) (hs : i = l.length ∨ ∃ z, l[i]? = some z ∧ z < 0) : frontL l = (l.take i).map byteOf := by
  unfold frontL
  congr 1
  have h1 : ∀ x ∈ l.take i, decide ((0 : Int) ≤ x) = true := fun x hx => by
    obtain ⟨j, hj, rfl⟩ := List.mem_iff_getElem.1 hx
    rw [List.length_take] at hj
    refine decide_eq_true (hy j _ (by omega) ?_)
    rw [List.getElem_take]
    exact List.getElem?_eq_getElem _
  conv => lhs; rw [← List.take_append_drop i l]
  rw [List.takeWhile_append_of_pos h1]
  rcases hs with rfl | ⟨z, hz, hz0⟩
  · simp
  · rw [List.drop_eq_getElem?_toList_append, hz]
    simp only [Option.toList, List.cons_append, List.nil_append]
    rw [List.takeWhile_cons, if_neg (by simp; omega), List.append_nil]
theorem txt_snoc (m : List UInt8) (b : UInt8) : (⟨m.toArray⟩ : ByteArray) ++ ⟨#[b]⟩ = ⟨(m ++ [b]).toArray⟩ := by
  apply ByteArray.ext
  simp
theorem byte_val {z : Int} (h0 : 0 ≤ z) (h1 : z ≤ 255) : ((byteOf z).toNat : Int) = z := by
  unfold byteOf
  rw [UInt8.toNat_ofNat']
  omega
set_option maxRecDepth 100000 in
set_option maxHeartbeats 1000000 in
theorem reffront_any (v : Value) (l : List Int) (S : Nat → Prop) (w : World) (hv : Rv w S v (intsD l)) (hl : l.length ≤ 1000) (hb : ∀ c ∈ l, c ≤ 255) : Calls Try.prog 30 #[v] w fun e w' => e = .returned (txtV (frontL l)) ∧ Below w.heap.size w w' := by
  obtain ⟨A, c, rfl, hrd, hA, hc, hm⟩ := rv_ints.1 hv
  obtain ⟨n, hn⟩ : ∃ n, l.length = n := ⟨_, rfl⟩
  rw [hn] at hl hc ⊢
  have hm2 : c ≤ 9223372036854775807 := by unfold maxLen at hm; omega
  have HN := Lib.hid hn
  have hr2 : Rd w 0 w.heap.size A (intsV l) := fun j u hj => by
    obtain ⟨a, e, _, h2⟩ := hrd j u hj
    have := cell_lt h2
    rw [blk_add] at this
    exact ⟨a, e, Nat.zero_le _, this, h2⟩
  have HR := Lib.hid hr2
  have HBT := Lib.hid hb
  clear hn hrd hr2 hA hm hv hb
  go_enter Try.func30, Try.ntmps30
  go_wp2
  go_loopw [3, 4] (fun t3 t4 wr => ∃ i : Nat, i ≤ n ∧ t4 = .int .i64 (i : Int) ∧ t3 = txtV ((l.take i).map byteOf) ∧ Hid (∀ j h, j < i → l[j]? = some h → 0 ≤ h) ∧ Hid (Below w.heap.size w wr)) (fun _ t4 _ => n - (intOf t4).toNat)
  case atStart => exact ⟨0, Nat.zero_le _, rfl, rfl, Lib.hid (fun j h hj => by omega), Lib.hid (Below.refl _ _)⟩
  case round =>
    obtain ⟨i, hin, rfl, rfl, HY, HB⟩ := hrel
    have HTX : Hid ((⟨((l.take i).map byteOf).toArray⟩ : ByteArray).size = i) := by
      show _ = _
      simp [ByteArray.size]
      rw [HN.out]
      omega
    by_cases hlt : i < n
    · obtain ⟨z, hz⟩ : ∃ z, l[i]? = some z := ⟨_, List.getElem?_eq_getElem (by rw [HN.out]; exact hlt)⟩
      obtain ⟨ad, rfl, _, _, hc1⟩ := (HR.out.below HB.out (Nat.le_refl _)) i _ (intsV_get hz)
      have HZ := Lib.hid hz
      rcases Int.lt_or_le z 0 with hzs | hzs
      · have HF := Lib.hid (front_stop HY.out (by rw [HN.out]; exact hin) (.inr ⟨z, hz, hzs⟩))
        clear hz
        go_wp2
        go_ret
        rw [HF.out]
        exact ⟨rfl, HB.out⟩
      · have hz5 := HBT.out z (List.mem_of_getElem? hz)
        have HBV := byte_val hzs hz5
        have HSN : Hid ((⟨((l.take i).map byteOf).toArray⟩ : ByteArray) ++ ⟨#[byteOf z]⟩ = ⟨((l.take (i + 1)).map byteOf).toArray⟩) := by
          show _ = _
          rw [txt_snoc, List.take_succ_eq_append_getElem (by rw [HN.out]; exact hlt), (List.getElem?_eq_some_iff.1 hz).2, List.map_append]
          rfl
        have HY2 : Hid (∀ j h, j < i + 1 → l[j]? = some h → 0 ≤ h) := fun j h hj hh => by
          by_cases hji : j < i
          · exact HY.out j h hji hh
          · obtain rfl : j = i := by omega
            rw [HZ.out] at hh
            injection hh with hh
            rw [← hh]
            exact hzs
        have HB2 : Hid (Below w.heap.size w (wr.alloc (.cells #[.int .u8 ((byteOf z).toNat : Int)] 5))) := HB.out.alloc HB.out.size _
        have hone := run_one wr (byteOf z)
        have hts := HTX.out
        unfold txtV
        generalize (⟨((l.take i).map byteOf).toArray⟩ : ByteArray) = T at hts HSN ⊢
        generalize byteOf z = b at *
        subst HBV
        have hb8 := b.toNat_lt
        clear hz
        go_wp2
        rw [HSN.out]
        go_roundw
        case rel => exact ⟨i + 1, by omega, by go_num, rfl, HY2, HB2⟩
        case measure => simp [intOf]; omega
    · obtain rfl : i = n := by omega
      have HF := Lib.hid (front_stop HY.out (by rw [HN.out]; exact Nat.le_refl _) (.inl HN.out.symm))
      go_wp2
      go_ret
      rw [HF.out]
      exact ⟨rfl, HB.out⟩
end Go.Proofs.Ytdgfhcojmfgimaa
