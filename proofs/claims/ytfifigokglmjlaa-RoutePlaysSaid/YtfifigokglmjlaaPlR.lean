/-
  The law RoutePlays: every slice of acts.
-/
import Derived.Test.YtfifigokglmjlaaLiR
import Derived.Test.YtfifigokglmjlaaRfs
import Derived.Test.YtfifigokglmjlaaArR
namespace Go.Proofs.Ytfifigokglmjlaa
open Go.RowKit

/-- something that is done -/
structure Act14 where
  del : Bool
  r : Ro
def acA (x : Act14) : Array Value := #[.bool x.del, .int .u8 (x.r.net.x0.toNat : Int), .int .u8 (x.r.net.x1.toNat : Int), .int .u8 (x.r.net.x2.toNat : Int), .int .u8 (x.r.net.x3.toNat : Int), .int .i64 x.r.bits, .int .u8 (x.r.via.x0.toNat : Int), .int .u8 (x.r.via.x1.toNat : Int), .int .u8 (x.r.via.x2.toNat : Int), .int .u8 (x.r.via.x3.toNat : Int)]
theorem acE : El acA 10 := ⟨fun _ => rfl, fun a => by simp [acA, Value.oneCell']⟩
theorem acA_del (x : Act14) : (acA x)[0]? = some (.bool x.del) := rfl
theorem acA_bits (x : Act14) : (acA x)[5]? = some (.int .i64 x.r.bits) := rfl
theorem acA_ro (x : Act14) (j : Nat) (v : Value) (h : (roA x.r)[j]? = some v) : (acA x)[1 + j]? = some v := by
  have hj := (Array.getElem?_eq_some_iff.1 h).1
  rw [roE.size] at hj
  rcases j with _ | _ | _ | _ | _ | _ | _ | _ | _ | j
  all_goals first | exact h | omega
theorem var_part {w : World} {b o : Nat} {C D : Array Value} {t : TypeId} {fr : Nat × Nat} (h : w.heap[b]? = some (.cells C t fr)) (hD : ∀ (j : Nat) v, D[j]? = some v → C[o + j]? = some v) : ∀ (j : Nat) v, D[j]? = some v → w.cell? ((⟨b, o, none⟩ : Addr).add j) = some v := fun j v hv => by
  rw [Addr.add_mid, cell_of_row _ _ _ _ _ _ h]
  exact hD j v hv
abbrev ShAc : Sh := .cat .bit (.cat ShRo .non)
theorem acts_of {w : World} {A : Option Addr} {len cap : Nat} (h : (Sh.sl ShAc).ok w [.slice A len cap]) : ∃ l : List Act14, l.length = len ∧ SlT acA w (.slice A len cap) l ∧ (∀ x ∈ l, I64 x.r.bits) ∧ len ≤ 140737488351232 :=
  sl_of acE (by decide) rfl (fun cs h => by
    obtain ⟨c1, c2, rfl, ⟨d, rfl⟩, c3, c4, rfl, h3, rfl⟩ := h
    obtain ⟨r, rfl, hr⟩ := ro_of h3
    exact ⟨⟨d, r⟩, rfl, hr⟩) h
abbrev AcT (w : World) (v : Value) (L : List Act14) : Prop := SlT acA w v L
set_option maxRecDepth 100000 in
set_option maxHeartbeats 16000000 in
theorem plays_any (v : Value) (L : List Act14) (w : World) (hv : AcT w v L) (hI : ∀ x ∈ L, I64 x.r.bits) (hl : L.length ≤ 140737488351232) :
    Calls Try.prog 3 #[v] w fun e w' => e = .returned (.bool true) ∧ Below w.heap.size w w' := by
  obtain ⟨A, c, rfl, htr, -, hnc, hcm⟩ := hv
  obtain ⟨n, hnn⟩ : ∃ n, L.length = n := ⟨_, rfl⟩
  rw [hnn] at hl hnc ⊢
  have HN := Lib.hid hnn
  have hcm2 : c ≤ 9223372036854775807 := by unfold maxLen at hcm; omega
  have HTR := Lib.hid htr
  have HI := Lib.hid hI
  clear hnn htr hcm hI
  go_enter Try.func3, Try.ntmps3
  go_wp2_with fail
  refine (lives_any _).mono ?_
  rintro e w1 ⟨rfl, hb1⟩
  have HB1 := Lib.hid hb1
  clear hb1
  by_cases h60 : 60 < n
  · have h60b : (60 : Int) < (n : Int) := by omega
    go_wp2_with fail
    refine (lives_any _).mono ?_
    rintro e w2 ⟨rfl, hb2⟩
    have HB2 := Lib.hid (HB1.out.trans (hb2.mono HB1.out.size))
    clear hb2
    go_wp2
    go_ret
    exact ⟨rfl, HB2.out⟩
  · have h60b : ¬ (60 : Int) < (n : Int) := by omega
    have HT1 := Lib.hid (HTR.out.below HB1.out (Nat.le_refl _))
    clear HTR
    go_wp2
    go_loopw [3, 4, 26] (fun t3 t4 t26 wr => ∃ (i : Nat) (K : List Ro), i ≤ n ∧ t26 = .int .i64 (i : Int) ∧ Hid (RoT wr t3 K) ∧ Hid (RoT wr t4 K) ∧ Hid (rightX K = true) ∧ Hid (Below w1.heap.size w1 wr)) (fun _ _ t26 _ => n - (intOf t26).toNat)
    case atStart => exact ⟨0, [], Nat.zero_le _, rfl, Lib.hid SlT.nil, Lib.hid SlT.nil, Lib.hid right_nil, Lib.hid (Below.refl _ _)⟩
    case round =>
      obtain ⟨i, K, hi, rfl, HA, HB, HK, HBW⟩ := hrel
      by_cases hlt : i < n
      · obtain ⟨x, hx⟩ : ∃ x, L[i]? = some x := ⟨_, List.getElem?_eq_getElem (by rw [HN.out]; exact hlt)⟩
        obtain ⟨ad, rfl, hKA⟩ := el_all acE (HT1.out.below HBW.out (Nat.le_refl _)) (by omega) hx
        have HKC := Lib.hid (hKA wr (Below.refl _ _))
        have HXI := Lib.hid (HI.out x (List.mem_of_getElem? hx))
        have HK8 := Lib.hid (right_len HK.out)
        have HSX : Hid ((acA x).size = 10) := acE.size x
        have HOX : Hid ((acA x).all (·.oneCell') = true) := acE.one x
        have HD0 := Lib.hid (acA_del x)
        have HD5 := Lib.hid (acA_bits x)
        have HDR := Lib.hid (acA_ro x)
        have HDN : Hid (∀ (j : Nat) v, (ipA x.r.net)[j]? = some v → (acA x)[1 + j]? = some v) := fun j v hv => acA_ro x j v (roA_net x.r j v hv)
        obtain ⟨CX, hCX⟩ : ∃ CX, acA x = CX := ⟨_, rfl⟩
        rw [hCX] at HKC HSX HOX HD0 HD5 HDR HDN
        obtain ⟨w2, hw2⟩ : ∃ w2, wr.alloc (.cells CX 30) = w2 := ⟨_, rfl⟩
        have HX2 : Hid (w2.heap[wr.heap.size]? = some (.cells CX 30 (0, 0))) := by rw [← hw2]; exact heap_alloc_new wr _
        have HA2 : Hid (RoT w2 u3 K) := by show SlT _ _ _ _; rw [← hw2]; exact HA.out.alloc _
        have HB2 : Hid (RoT w2 u4 K) := by show SlT _ _ _ _; rw [← hw2]; exact HB.out.alloc _
        have HBW2 : Hid (Below w1.heap.size w1 w2) := by rw [← hw2]; exact HBW.out.alloc HBW.out.size _
        have HW2 := Lib.hid hw2
        clear hx hKA hCX hw2 HA HB HBW
        go_upto_region 7 with (first | (refine wpList_load_atA rfl 30 _ rfl (ad.add (i * 10)) rfl CX _ HKC.out Try.underlying30 rfl (by rw [HSX.out]; kernel_rfl) ?_) | (refine wpList_store_new rfl 30 _ _ rfl wr #[.bool false, .int .u8 0, .int .u8 0, .int .u8 0, .int .u8 0, .int .i64 0, .int .u8 0, .int .u8 0, .int .u8 0, .int .u8 0] CX rfl rfl (by rw [HSX.out]; kernel_rfl) (by rw [HSX.out]; rfl) HOX.out ?_) | go_in)
        rw [HW2.out]
        clear HW2 HKC
        generalize wr.heap.size = NX at HX2 ⊢
        generalize u3 = va at HA2 ⊢
        generalize u4 = vb at HB2 ⊢
        obtain ⟨Aa, ca, rfl, hta, hna, hnca, hcam⟩ := HA2.out
        have hcam2 : ca ≤ 9223372036854775807 := by unfold maxLen at hcam; omega
        obtain ⟨kn, hkn⟩ : ∃ kn, K.length = kn := ⟨_, rfl⟩
        have HKN := Lib.hid hkn
        rw [hkn] at HA2 HK8 hnca ⊢
        have hk8 := HK8.out
        have HEW : Hid ((w2.alloc (.cells #[] 28)).ownsRow w2.heap.size 28 9 (.slice (some ⟨w2.heap.size, 0, none⟩) 0 0) 0 []) := own_empty w2 28 9
        have HRD := Lib.hid ((hta.alloc (.cells #[] 28)).rd)
        have HNA := Lib.hid hna
        obtain ⟨i0, q0, q1, q2, q3⟩ := info_ro9
        clear hta hna hcam hkn HK8
        go_upto_region 8 with (first | (at_builtin; refine wpList_append_rdk rfl _ _ 24 rfl w2.heap.size 28 i0 _ 9 24 Try.underlying24 q0 q1 q2 q3 rfl (by decide) (.slice (some ⟨w2.heap.size, 0, none⟩) 0 0) 0 [] rfl HEW.out Aa kn ca (rowsOf roA K) rfl HNA.out (by rw [rows_length roE, HKN.out]) HRD.out (rows_ones roE K) (by unfold maxLen; omega) (by omega) (by simp) ?_; intro v3 w3 hown3 hgrow3 _; rw [List.nil_append, Nat.zero_add] at hown3; have HOW3 := Lib.hid hown3; have HBN3 : Hid (Below w2.heap.size w2 w3) := ((Below.refl _ _).alloc (Nat.le_refl _) _).grown hgrow3 (by simp) fun g hg => (HEW.out.lt g hg).1; clear hown3 hgrow3) | go_in)
        have HX3 := Lib.hid (old_below HX2.out HBN3.out (row_lt HX2.out))
        have HA3 : Hid (RoT w3 (.slice Aa kn ca) K) := HA2.out.below HBN3.out (Nat.le_refl _)
        have HB3 : Hid (RoT w3 vb K) := HB2.out.below HBN3.out (Nat.le_refl _)
        have HV3 : Hid (RoT w3 v3 K) := SlT.own (base := w2.heap.size) (k := 9) (e := 28) (by rw [HKN.out]; exact HOW3.out)
        have HBW3 := Lib.hid (HBW2.out.trans (HBN3.out.mono HBW2.out.size))
        clear HX2 HA2 HB2 HBW2 HEW HRD HNA HOW3 HBN3 q0 q1 q2 q3
        have hd0 : w3.cell? ⟨NX, 0, none⟩ = some (.bool x.del) := (cell_of_row _ _ _ _ _ _ HX3.out).trans HD0.out
        have hd5 : w3.cell? ⟨NX, 5, none⟩ = some (.int .i64 x.r.bits) := (cell_of_row _ _ _ _ _ _ HX3.out).trans HD5.out
        cases hdel : x.del
        · rw [hdel] at hd0
          clear hdel
          obtain ⟨⟨K1, z1⟩, hres⟩ : ∃ p, addX K x.r = p := ⟨_, rfl⟩
          have HK1 : Hid (rightX K1 = true) := by
            have := right_add (r := x.r) HK.out
            rw [hres] at this
            exact this
          have HC : Hid (∀ v w, RoT w v K → Calls Try.prog 11 #[v, .agg (roA x.r)] w fun e w' => ∃ v', e = .returned (.tuple #[v', .int .i64 z1]) ∧ RoT w' v' K1 ∧ Below w.heap.size w w') := fun v w hv => by
            have := add_any v K x.r w hv HK.out HXI.out
            rw [hres] at this
            exact this
          have HR : Hid (∀ v w, RoT w v K → Calls Try.prog 12 #[v, .agg (roA x.r)] w fun e w' => ∃ v', e = .returned (.tuple #[v', .int .i64 z1]) ∧ RoT w' v' K1 ∧ Below w.heap.size w w') := fun v w hv => by
            have := refadd_any v K x.r w hv (by rw [HKN.out]; omega)
            rw [hres] at this
            exact this
          have HRI : Hid (∀ v w, RoT w v K1 → Calls Try.prog 13 #[v] w fun e w' => e = .returned (.bool true) ∧ Below w.heap.size w w') := fun v w hv => by
            have := right_any v K1 w hv (fun r hr => by
              have := (right_iff.1 HK1.out).2.1 r hr
              unfold okB at this
              unfold I64
              omega) (by have := right_len HK1.out; omega)
            rw [HK1.out] at this
            exact this
          have HSN : Hid ((roA x.r).size = 9) := roE.size _
          have HP3 := Lib.hid (var_part HX3.out HDR.out)
          obtain ⟨CN, hCN⟩ : ∃ CN, roA x.r = CN := ⟨_, rfl⟩
          rw [hCN] at HC HR HSN HP3 HDR
          clear hres hCN
          go_wp2_with (refine wpList_load_atA rfl 28 _ rfl ⟨NX, 1, none⟩ rfl CN _ HP3.out Try.underlying28 rfl (by rw [HSN.out]; kernel_rfl) ?_)
          refine (HC.out _ _ HA3.out).mono ?_
          rintro e w4 ⟨v4, rfl, hv4, hb⟩
          have HX4 := Lib.hid (old_below HX3.out hb (row_lt HX3.out))
          have HA4 := Lib.hid (HA3.out.below hb (Nat.le_refl _))
          have HB4 := Lib.hid (HB3.out.below hb (Nat.le_refl _))
          have HV4 := Lib.hid (HV3.out.below hb (Nat.le_refl _))
          have HBW4 := Lib.hid (HBW3.out.trans (hb.mono HBW3.out.size))
          have HU4 := Lib.hid hv4
          clear hv4 hb hd0 hd5 HP3 HX3 HA3 HB3 HV3 HBW3 HC
          have HP4 := Lib.hid (var_part HX4.out HDR.out)
          go_wp2_with (refine wpList_load_atA rfl 28 _ rfl ⟨NX, 1, none⟩ rfl CN _ HP4.out Try.underlying28 rfl (by rw [HSN.out]; kernel_rfl) ?_)
          refine (HR.out _ _ HB4.out).mono ?_
          rintro e w5 ⟨v5, rfl, hv5, hb⟩
          have HX5 := Lib.hid (old_below HX4.out hb (row_lt HX4.out))
          have HA5 := Lib.hid (HA4.out.below hb (Nat.le_refl _))
          have HB5 := Lib.hid (HB4.out.below hb (Nat.le_refl _))
          have HV5 := Lib.hid (HV4.out.below hb (Nat.le_refl _))
          have HBW5 := Lib.hid (HBW4.out.trans (hb.mono HBW4.out.size))
          have HU5 := Lib.hid (HU4.out.below hb (Nat.le_refl _))
          have HT5 := Lib.hid hv5
          clear hv5 hb HP4 HX4 HA4 HB4 HV4 HBW4 HR HU4
          go_wp2_with fail
          have hsm := same_any _ _ K1 K1 w5 HU5.out HT5.out (by have := right_len HK1.out; omega)
          rw [decide_eq_true rfl] at hsm
          refine hsm.mono ?_
          rintro e w6 ⟨rfl, hb⟩
          clear hsm
          have HX6 := Lib.hid (old_below HX5.out hb (row_lt HX5.out))
          have HA6 := Lib.hid (HA5.out.below hb (Nat.le_refl _))
          have HB6 := Lib.hid (HB5.out.below hb (Nat.le_refl _))
          have HV6 := Lib.hid (HV5.out.below hb (Nat.le_refl _))
          have HBW6 := Lib.hid (HBW5.out.trans (hb.mono HBW5.out.size))
          have HU6 := Lib.hid (HU5.out.below hb (Nat.le_refl _))
          have HT6 := Lib.hid (HT5.out.below hb (Nat.le_refl _))
          clear hb HX5 HA5 HB5 HV5 HBW5 HU5 HT5
          go_wp2_with fail
          have hsm := same_any _ _ K K w6 HA6.out HV6.out (by rw [HKN.out]; omega)
          rw [decide_eq_true rfl] at hsm
          refine hsm.mono ?_
          rintro e w7 ⟨rfl, hb⟩
          clear hsm
          have HU7 := Lib.hid (HU6.out.below hb (Nat.le_refl _))
          have HT7 := Lib.hid (HT6.out.below hb (Nat.le_refl _))
          have HBW7 := Lib.hid (HBW6.out.trans (hb.mono HBW6.out.size))
          clear hb HX6 HA6 HB6 HV6 HBW6 HU6 HT6
          go_wp2_with fail
          refine (HRI.out _ _ HU7.out).mono ?_
          rintro e w8 ⟨rfl, hb⟩
          have HU8 := Lib.hid (HU7.out.below hb (Nat.le_refl _))
          have HT8 := Lib.hid (HT7.out.below hb (Nat.le_refl _))
          have HBW8 := Lib.hid (HBW7.out.trans (hb.mono HBW7.out.size))
          clear hb HBW7 HU7 HT7
          go_wp2
          go_roundw
          case rel => exact ⟨i + 1, K1, by omega, by go_num, HU8, HT8, HK1, HBW8⟩
          case measure => simp [intOf]; omega
        · rw [hdel] at hd0
          clear hdel
          obtain ⟨⟨K1, z1⟩, hres⟩ : ∃ p, delX K x.r.net x.r.bits = p := ⟨_, rfl⟩
          have HK1 : Hid (rightX K1 = true) := by
            have := right_del (net := x.r.net) (bits := x.r.bits) HK.out
            rw [hres] at this
            exact this
          have HC : Hid (∀ v w, RoT w v K → Calls Try.prog 8 #[v, .agg (ipA x.r.net), .int .i64 x.r.bits] w fun e w' => ∃ v', e = .returned (.tuple #[v', .int .i64 z1]) ∧ RoT w' v' K1 ∧ Below w.heap.size w w') := fun v w hv => by
            have := del_any v K x.r.net x.r.bits w hv HK.out HXI.out
            rw [hres] at this
            exact this
          have HR : Hid (∀ v w, RoT w v K → Calls Try.prog 9 #[v, .agg (ipA x.r.net), .int .i64 x.r.bits] w fun e w' => ∃ v', e = .returned (.tuple #[v', .int .i64 z1]) ∧ RoT w' v' K1 ∧ Below w.heap.size w w') := fun v w hv => by
            have := refdel_any v K x.r.net x.r.bits w hv (by rw [HKN.out]; omega)
            rw [hres] at this
            exact this
          have HSN : Hid ((ipA x.r.net).size = 4) := ipE.size _
          have HP3 := Lib.hid (var_part HX3.out HDN.out)
          obtain ⟨CN, hCN⟩ : ∃ CN, ipA x.r.net = CN := ⟨_, rfl⟩
          rw [hCN] at HC HR HSN HP3 HDN
          generalize x.r.bits = z at hd5 HD5 HC HR ⊢
          clear hres hCN
          go_wp2_with (refine wpList_load_atA rfl 26 _ rfl ⟨NX, 1, none⟩ rfl CN _ HP3.out Try.underlying26 rfl (by rw [HSN.out]; kernel_rfl) ?_)
          refine (HC.out _ _ HA3.out).mono ?_
          rintro e w4 ⟨v4, rfl, hv4, hb⟩
          have HX4 := Lib.hid (old_below HX3.out hb (row_lt HX3.out))
          have HA4 := Lib.hid (HA3.out.below hb (Nat.le_refl _))
          have HB4 := Lib.hid (HB3.out.below hb (Nat.le_refl _))
          have HV4 := Lib.hid (HV3.out.below hb (Nat.le_refl _))
          have HBW4 := Lib.hid (HBW3.out.trans (hb.mono HBW3.out.size))
          have HU4 := Lib.hid hv4
          clear hv4 hb hd0 hd5 HP3 HX3 HA3 HB3 HV3 HBW3 HC
          have hd5 : w4.cell? ⟨NX, 5, none⟩ = some (.int .i64 z) := (cell_of_row _ _ _ _ _ _ HX4.out).trans HD5.out
          have HP4 := Lib.hid (var_part HX4.out HDN.out)
          go_wp2_with (refine wpList_load_atA rfl 26 _ rfl ⟨NX, 1, none⟩ rfl CN _ HP4.out Try.underlying26 rfl (by rw [HSN.out]; kernel_rfl) ?_)
          refine (HR.out _ _ HB4.out).mono ?_
          rintro e w5 ⟨v5, rfl, hv5, hb⟩
          have HX5 := Lib.hid (old_below HX4.out hb (row_lt HX4.out))
          have HA5 := Lib.hid (HA4.out.below hb (Nat.le_refl _))
          have HB5 := Lib.hid (HB4.out.below hb (Nat.le_refl _))
          have HV5 := Lib.hid (HV4.out.below hb (Nat.le_refl _))
          have HBW5 := Lib.hid (HBW4.out.trans (hb.mono HBW4.out.size))
          have HU5 := Lib.hid (HU4.out.below hb (Nat.le_refl _))
          have HT5 := Lib.hid hv5
          clear hv5 hb hd5 HP4 HX4 HA4 HB4 HV4 HBW4 HR HU4
          go_wp2_with fail
          have hsm := same_any _ _ K1 K1 w5 HU5.out HT5.out (by have := right_len HK1.out; omega)
          rw [decide_eq_true rfl] at hsm
          refine hsm.mono ?_
          rintro e w6 ⟨rfl, hb⟩
          clear hsm
          have HX6 := Lib.hid (old_below HX5.out hb (row_lt HX5.out))
          have HA6 := Lib.hid (HA5.out.below hb (Nat.le_refl _))
          have HB6 := Lib.hid (HB5.out.below hb (Nat.le_refl _))
          have HV6 := Lib.hid (HV5.out.below hb (Nat.le_refl _))
          have HBW6 := Lib.hid (HBW5.out.trans (hb.mono HBW5.out.size))
          have HU6 := Lib.hid (HU5.out.below hb (Nat.le_refl _))
          have HT6 := Lib.hid (HT5.out.below hb (Nat.le_refl _))
          clear hb HX5 HA5 HB5 HV5 HBW5 HU5 HT5
          go_wp2_with fail
          have hsm := same_any _ _ K K w6 HA6.out HV6.out (by rw [HKN.out]; omega)
          rw [decide_eq_true rfl] at hsm
          refine hsm.mono ?_
          rintro e w7 ⟨rfl, hb⟩
          clear hsm
          have HU7 := Lib.hid (HU6.out.below hb (Nat.le_refl _))
          have HT7 := Lib.hid (HT6.out.below hb (Nat.le_refl _))
          have HBW7 := Lib.hid (HBW6.out.trans (hb.mono HBW6.out.size))
          clear hb HX6 HA6 HB6 HV6 HBW6 HU6 HT6
          go_wp2
          go_roundw
          case rel => exact ⟨i + 1, K1, by omega, by go_num, HU7, HT7, HK1, HBW7⟩
          case measure => simp [intOf]; omega
      · obtain rfl : i = n := by omega
        go_wp2
        go_ret
        exact ⟨rfl, HB1.out.trans (HBW.out.mono HB1.out.size)⟩
end Go.Proofs.Ytfifigokglmjlaa
