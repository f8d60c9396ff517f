/-
  The law RouteOrder: every slice of routes, every turn.
-/
import Derived.Test.YtfifigokglmjlaaLiR
import Derived.Test.YtfifigokglmjlaaRfs
import Derived.Test.YtfifigokglmjlaaRop
namespace Go.Proofs.Ytfifigokglmjlaa
open Go.RowKit

theorem len_of {w : World} {v : Value} {K : List Ro} (h : RoT w v K) : ∃ A c, v = .slice A K.length c ∧ K.length ≤ c ∧ c ≤ 9223372036854775807 := by
  obtain ⟨A, c, e, _, _, h1, h2⟩ := h
  exact ⟨A, c, e, h1, by unfold maxLen at h2; omega⟩
set_option maxRecDepth 100000 in
set_option maxHeartbeats 16000000 in
theorem order_any (v : Value) (l : List Ro) (tu : Int) (w : World) (hv : RoT w v l) (hI : ∀ r ∈ l, I64 r.bits) (hl : l.length ≤ 140737488351232) :
    Calls Try.prog 6 #[v, .int .i64 tu] w fun e w' => e = .returned (.bool true) ∧ Below w.heap.size w w' := by
  obtain ⟨A, c, rfl, htr, -, hnc, hcm⟩ := hv
  obtain ⟨n, hnn⟩ : ∃ n, l.length = n := ⟨_, rfl⟩
  rw [hnn] at hl hnc ⊢
  have HN := Lib.hid hnn
  have hcm2 : c ≤ 9223372036854775807 := by unfold maxLen at hcm; omega
  have HTR := Lib.hid htr
  have HI := Lib.hid hI
  clear hnn htr hcm hI
  go_enter Try.func6, Try.ntmps6
  go_wp2_with fail
  refine (lives_any _).mono ?_
  rintro e w1 ⟨rfl, hb1⟩
  have HB1 := Lib.hid hb1
  clear hb1
  by_cases h8 : 8 < n
  · have h8b : (8 : Int) < (n : Int) := by omega
    go_wp2_with fail
    refine (lives_any _).mono ?_
    rintro e w2 ⟨rfl, hb2⟩
    have HB2 := Lib.hid (HB1.out.trans (hb2.mono HB1.out.size))
    clear hb2
    go_wp2
    go_ret
    exact ⟨rfl, HB2.out⟩
  · have h8b : ¬ (8 : Int) < (n : Int) := by omega
    have HT1 := Lib.hid (HTR.out.below HB1.out (Nat.le_refl _))
    clear HTR
    go_wp2
    go_loopw [5, 25] (fun t5 t25 wr => ∃ (i : Nat), i ≤ n ∧ t25 = .int .i64 (i : Int) ∧ Hid (RoT wr t5 (addsX [] (l.take i))) ∧ Hid (Below w1.heap.size w1 wr)) (fun _ t25 _ => n - (intOf t25).toNat)
    case atStart => exact ⟨0, Nat.zero_le _, rfl, Lib.hid SlT.nil, Lib.hid (Below.refl _ _)⟩
    case round =>
      obtain ⟨i, hi, rfl, HA, HBW⟩ := hrel
      generalize u5 = va at HA ⊢
      by_cases hlt : i < n
      · obtain ⟨r, hr⟩ : ∃ r, l[i]? = some r := ⟨_, List.getElem?_eq_getElem (by rw [HN.out]; exact hlt)⟩
        obtain ⟨ad, rfl, hKA⟩ := el_all roE (HT1.out.below HBW.out (Nat.le_refl _)) (by omega) hr
        have HKC := Lib.hid (hKA wr (Below.refl _ _))
        have HC := Lib.hid (add_any va _ r wr HA.out (adds_right _ right_nil) (HI.out r (List.mem_of_getElem? hr)))
        have HS := Lib.hid (adds_snoc (K := []) hr)
        have HSX : Hid ((roA r).size = 9) := roE.size r
        obtain ⟨CX, hCX⟩ : ∃ CX, roA r = CX := ⟨_, rfl⟩
        rw [hCX] at HKC HC HSX
        generalize (addX (addsX [] (l.take i)) r).2 = z at HC
        clear hr hKA hCX
        go_wp2_with (refine wpList_load_atA rfl 28 _ rfl (ad.add (i * 9)) rfl CX _ HKC.out Try.underlying28 rfl (by rw [HSX.out]; kernel_rfl) ?_)
        refine HC.out.mono ?_
        rintro e w4 ⟨v4, rfl, hv4, hb⟩
        rw [← HS.out] at hv4
        have HV4 := Lib.hid hv4
        have HBW4 := Lib.hid (HBW.out.trans (hb.mono HBW.out.size))
        clear hv4 hb HKC HC
        go_wp2
        go_roundw
        case rel => exact ⟨i + 1, by omega, by go_num, HV4, HBW4⟩
        case measure => simp [intOf]; omega
      · obtain rfl : i = n := by omega
        have HTK : Hid (l.take i = l) := List.take_of_length_le (Nat.le_of_eq HN.out)
        rw [HTK.out] at HA
        obtain ⟨K, hK⟩ : ∃ K, addsX [] l = K := ⟨_, rfl⟩
        have HKE := Lib.hid hK
        have HKR : Hid (rightX K = true) := by
          have := adds_right l right_nil
          rw [hK] at this
          exact this
        rw [hK] at HA
        obtain ⟨Aa, ca, rfl, hka, hca⟩ := len_of HA.out
        obtain ⟨k, hk⟩ : ∃ k, K.length = k := ⟨_, rfl⟩
        have HKL := Lib.hid hk
        rw [hk] at HA hka ⊢
        have hk8 : k ≤ 8 := by
          have := right_len HKR.out
          omega
        clear hK hk
        by_cases hki : k = i
        · subst hki
          have HRP : Hid (∀ t, addsX [] (rotX l t) = K) := fun t => by
            have := adds_turn (rot_perm l t) (by rw [HKE.out, HKL.out, HN.out])
            rw [HKE.out] at this
            exact this
          obtain ⟨t, ht⟩ : ∃ t : Nat, k = 0 ∨ ((IntKind.u64.wrap tu).tmod (k : Int) = (t : Int) ∧ t < k) := by
            by_cases h0 : k = 0
            · exact ⟨0, .inl h0⟩
            · obtain ⟨t, h1, h2⟩ := u64_rem tu k (by omega) (by omega)
              exact ⟨t, .inr ⟨h1, h2⟩⟩
          have HT := Lib.hid ht
          clear ht
          rename World => wo
          go_wp2
          go_loopw [6, 45] (fun t6 t45 wr => ∃ (i : Nat), i ≤ k ∧ t45 = .int .i64 (i : Int) ∧ Hid (RoT wr t6 (addsX [] ((rotX l t).take i))) ∧ Hid (Below wo.heap.size wo wr)) (fun _ t45 _ => k - (intOf t45).toNat)
          case atStart => exact ⟨0, Nat.zero_le _, rfl, Lib.hid SlT.nil, Lib.hid (Below.refl _ _)⟩
          case round =>
            obtain ⟨i, hi, rfl, HB, HBI⟩ := hrel
            generalize u6 = vb at HB ⊢
            by_cases hlt : i < k
            · obtain ⟨htm, htk⟩ : (IntKind.u64.wrap tu).tmod (k : Int) = (t : Int) ∧ t < k := by
                rcases HT.out with h | h
                · omega
                · exact h
              obtain ⟨p, hp⟩ : ∃ p, (i + t) % k = p := ⟨_, rfl⟩
              have hpk : p < k := by rw [← hp]; exact Nat.mod_lt _ (by omega)
              have hpm : ((i : Int) + (t : Int)).tmod (k : Int) = (p : Int) := by
                rw [Int.tmod_eq_emod_of_nonneg (by omega), ← hp]
                rfl
              have hpm2 : ((i : Int) + (t : Int)) % (k : Int) = (p : Int) := by
                rw [← hp]
                rfl
              obtain ⟨r, hr⟩ : ∃ r, l[p]? = some r := ⟨_, List.getElem?_eq_getElem (by rw [HN.out]; exact hpk)⟩
              have hr2 : (rotX l t)[i]? = some r := by
                rw [rot_at (by rw [HN.out]; exact htk) (by rw [HN.out]; exact hlt), HN.out, hp]
                exact hr
              obtain ⟨ad, rfl, hKA⟩ := el_all roE ((HT1.out.below HBW.out (Nat.le_refl _)).below HBI.out (Nat.le_refl _)) (by omega) hr
              have HKC := Lib.hid (hKA wr (Below.refl _ _))
              have HC := Lib.hid (add_any vb _ r wr HB.out (adds_right _ right_nil) (HI.out r (List.mem_of_getElem? hr)))
              have HS := Lib.hid (adds_snoc (K := []) hr2)
              have HSX : Hid ((roA r).size = 9) := roE.size r
              obtain ⟨CX, hCX⟩ : ∃ CX, roA r = CX := ⟨_, rfl⟩
              rw [hCX] at HKC HC HSX
              generalize (addX (addsX [] ((rotX l t).take i)) r).2 = z at HC
              clear hr hr2 hKA hCX hp
              go_wp2_with (refine wpList_load_atA rfl 28 _ rfl (ad.add (p * 9)) rfl CX _ HKC.out Try.underlying28 rfl (by rw [HSX.out]; kernel_rfl) ?_)
              refine HC.out.mono ?_
              rintro e w4 ⟨v4, rfl, hv4, hb⟩
              rw [← HS.out] at hv4
              have HV4 := Lib.hid hv4
              have HBW4 := Lib.hid (HBI.out.trans (hb.mono HBI.out.size))
              clear hv4 hb HKC HC
              go_wp2
              go_roundw
              case rel => exact ⟨i + 1, by omega, by go_num, HV4, HBW4⟩
              case measure => simp [intOf]; omega
            · obtain rfl : i = k := by omega
              have HTK2 : Hid ((rotX l t).take i = rotX l t) := List.take_of_length_le (by rw [rot_len, HN.out]; exact Nat.le_refl _)
              rw [HTK2.out, HRP.out] at HB
              have HA2 := Lib.hid (HA.out.below HBI.out (Nat.le_refl _))
              rw [← HKL.out] at HA2
              have hsm := same_any _ _ K K wr HA2.out HB.out (by rw [HKL.out]; omega)
              rw [decide_eq_true rfl, HKL.out] at hsm
              rw [HKL.out] at HA2
              have HSM := Lib.hid hsm
              clear hsm
              go_wp2_with fail
              refine HSM.out.mono ?_
              rintro e w5 ⟨rfl, hb⟩
              have HA5 := Lib.hid (HA2.out.below hb (Nat.le_refl _))
              have HB5 := Lib.hid (HB.out.below hb (Nat.le_refl _))
              have HBW5 := Lib.hid (HB1.out.trans ((HBW.out.trans ((HBI.out.trans (hb.mono HBI.out.size)).mono HBW.out.size)).mono HB1.out.size))
              clear hb HA HB HA2 HBI HBW HSM
              obtain ⟨Aa5, ca5, hsl5, hta5, -, -, -⟩ := HA5.out
              injection hsl5 with hs1 hs2 hs3
              subst hs1 hs3
              have HTA5 := Lib.hid hta5
              clear hta5 hs2
              go_wp2
              go_loopw [6, 75] (fun t6 t75 wr => ∃ (j : Nat), j ≤ i ∧ t75 = .int .i64 (j : Int) ∧ Hid (RoT wr t6 (K.drop j)) ∧ Hid (Below w5.heap.size w5 wr)) (fun _ t75 _ => i - (intOf t75).toNat)
              case atStart => exact ⟨0, Nat.zero_le _, rfl, HB5, Lib.hid (Below.refl _ _)⟩
              case round =>
                obtain ⟨j, hj, rfl, HB, HBI⟩ := hrel
                generalize u6 = vb at HB ⊢
                by_cases hlt : j < i
                · obtain ⟨r, hr⟩ : ∃ r, K[j]? = some r := ⟨_, List.getElem?_eq_getElem (by rw [HKL.out]; exact hlt)⟩
                  obtain ⟨ad, rfl, hKA⟩ := el_all roE (HTA5.out.below HBI.out (Nat.le_refl _)) (by omega) hr
                  have HKC := Lib.hid (hKA wr (Below.refl _ _))
                  have HDF := Lib.hid (del_first hr)
                  have HBR := (right_iff.1 HKR.out).2.1 r (List.mem_of_getElem? hr)
                  have HC : Hid (∀ w, RoT w vb (K.drop j) → Calls Try.prog 8 #[vb, .agg (ipA r.net), .int .i64 r.bits] w fun e w' => ∃ v', e = .returned (.tuple #[v', .int .i64 0]) ∧ RoT w' v' (K.drop (j + 1)) ∧ Below w.heap.size w w') := fun w hv => by
                    have := del_any vb (K.drop j) r.net r.bits w hv (right_sub HKR.out (List.drop_sublist ..)) (by unfold okB at HBR; unfold I64; omega)
                    rw [HDF.out] at this
                    exact this
                  have HSX : Hid ((roA r).size = 9) := roE.size r
                  have HSN : Hid ((ipA r.net).size = 4) := ipE.size _
                  have HOX : Hid ((roA r).all (·.oneCell') = true) := roE.one r
                  have HD4 := Lib.hid (roA_bits r)
                  have HDN := Lib.hid (roA_net r)
                  obtain ⟨CX, hCX⟩ : ∃ CX, roA r = CX := ⟨_, rfl⟩
                  rw [hCX] at HKC HSX HOX HD4 HDN
                  obtain ⟨CN, hCN⟩ : ∃ CN, ipA r.net = CN := ⟨_, rfl⟩
                  rw [hCN] at HC HSN HDN
                  generalize r.bits = z at HC HD4
                  obtain ⟨w6, hw6⟩ : ∃ w6, wr.alloc (.cells CX 28) = w6 := ⟨_, rfl⟩
                  have HX6 : Hid (w6.heap[wr.heap.size]? = some (.cells CX 28 (0, 0))) := by rw [← hw6]; exact heap_alloc_new wr _
                  have HB6 : Hid (RoT w6 vb (K.drop j)) := by show SlT _ _ _ _; rw [← hw6]; exact HB.out.alloc _
                  have HBW6 : Hid (Below w5.heap.size w5 w6) := by rw [← hw6]; exact HBI.out.alloc HBI.out.size _
                  have HW6 := Lib.hid hw6
                  clear hr hKA hCX hCN hw6 HB HBR HDF
                  go_upto_region 21 with (first | (refine wpList_load_atA rfl 28 _ rfl (ad.add (j * 9)) rfl CX _ HKC.out Try.underlying28 rfl (by rw [HSX.out]; kernel_rfl) ?_) | (refine wpList_store_new rfl 28 _ _ rfl wr #[.int .u8 0, .int .u8 0, .int .u8 0, .int .u8 0, .int .i64 0, .int .u8 0, .int .u8 0, .int .u8 0, .int .u8 0] CX rfl rfl (by rw [HSX.out]; kernel_rfl) (by rw [HSX.out]; rfl) HOX.out ?_) | go_in)
                  rw [HW6.out]
                  clear HW6 HKC
                  generalize wr.heap.size = NX at HX6 ⊢
                  have hd4 : w6.cell? ⟨NX, 4, none⟩ = some (.int .i64 z) := (cell_of_row _ _ _ _ _ _ HX6.out).trans HD4.out
                  have HPN : Hid (∀ (j : Nat) v, CN[j]? = some v → w6.cell? ((⟨NX, 0, none⟩ : Addr).add j) = some v) := fun j v hv => by
                    rw [Addr.add_mid, Nat.zero_add, cell_of_row _ _ _ _ _ _ HX6.out]
                    exact HDN.out j v hv
                  go_wp2_with (refine wpList_load_atA rfl 26 _ rfl ⟨NX, 0, none⟩ rfl CN _ HPN.out Try.underlying26 rfl (by rw [HSN.out]; kernel_rfl) ?_)
                  refine (HC.out _ HB6.out).mono ?_
                  rintro e w7 ⟨v7, rfl, hv7, hb⟩
                  have HV7 := Lib.hid hv7
                  have HBW7 := Lib.hid (HBW6.out.trans (hb.mono HBW6.out.size))
                  clear hv7 hb HC hd4 HPN HX6
                  go_wp2
                  go_roundw
                  case rel => exact ⟨j + 1, by omega, by go_num, HV7, HBW7⟩
                  case measure => simp [intOf]; omega
                · obtain rfl : j = i := by omega
                  have HNIL : Hid (K.drop j = []) := List.drop_eq_nil_of_le (Nat.le_of_eq HKL.out)
                  rw [HNIL.out] at HB
                  have HF : Hid (Calls Try.prog 15 #[vb, .agg #[.int .u8 10, .int .u8 0, .int .u8 0, .int .u8 1]] wr fun e w' => e = .returned (.tuple #[.agg #[.int .u8 0, .int .u8 0, .int .u8 0, .int .u8 0], .int .i64 15]) ∧ Below wr.heap.size wr w') := by
                    have := find_any vb [] gateI wr HB.out right_nil
                    rw [find_nil] at this
                    exact this
                  have HBE := Lib.hid (HBW5.out.trans (HBI.out.mono HBW5.out.size))
                  obtain ⟨Ab, cb, rfl, -, hcb⟩ := len_of HB.out
                  clear HB
                  have HZO : Hid ((#[.int .u8 0, .int .u8 0, .int .u8 0, .int .u8 0] : Array Value).all (·.oneCell') = true) := ipE.one zeroIp
                  go_wp2_with fail
                  refine HF.out.mono ?_
                  rintro e w8 ⟨rfl, hb⟩
                  have HB8 := Lib.hid (HBE.out.trans (hb.mono HBE.out.size))
                  clear hb HF
                  go_upto_region 27 with (first | (refine wpList_store_new rfl 26 _ _ rfl w8 #[.int .u8 0, .int .u8 0, .int .u8 0, .int .u8 0] #[.int .u8 0, .int .u8 0, .int .u8 0, .int .u8 0] rfl rfl (by kernel_rfl) rfl HZO.out ?_) | go_in)
                  go_wp2
                  go_ret
                  exact ⟨rfl, HB8.out.alloc HB8.out.size _⟩
        · have hki2 : ¬ (k : Int) = (i : Int) := by omega
          go_wp2
          go_ret
          exact ⟨rfl, HB1.out.trans (HBW.out.mono HB1.out.size)⟩
end Go.Proofs.Ytfifigokglmjlaa
