/-
  The law DgramBack: every byte, every two hosts, every slice of bytes. No condition.
-/
import Derived.Test.YthkpkhhnlenioaaTurned
import Derived.Handy
namespace Go.Proofs.Ythkpkhhnlenioaa
open Go.RowKit

theorem proto_ec (cs : Array Value) (w : World) : Calls Try.prog 66 #[.agg cs] w fun e w' => e = .returned (.int .u8 1) ∧ Below w.heap.size w w' := by
  have HB := Lib.hid ((Below.refl w.heap.size w).alloc (Nat.le_refl _) (.cells cs 25))
  go_enter Try.func66, Try.ntmps66
  go_wp2
  go_ret
  exact ⟨rfl, HB.out⟩
theorem proto_dg (cs : Array Value) (w : World) : Calls Try.prog 67 #[.agg cs] w fun e w' => e = .returned (.int .u8 17) ∧ Below w.heap.size w w' := by
  have HB := Lib.hid ((Below.refl w.heap.size w).alloc (Nat.le_refl _) (.cells cs 43))
  go_enter Try.func67, Try.ntmps67
  go_wp2
  go_ret
  exact ⟨rfl, HB.out⟩
def EcT (B : Nat) (x : Ec) : Pred := fun v w => ∃ cs, v = .tuple #[ecM cs, .int .i64 0] ∧ EcC w B w.heap.size cs x
def EcI (B : Nat) (x : Ec) : Pred := fun v w => ∃ cs, v = ecM cs ∧ EcC w B w.heap.size cs x
def DgT (B : Nat) (x : Dg) : Pred := fun v w => ∃ cs, v = .tuple #[dgM cs, .int .i64 0] ∧ DgC w B w.heap.size cs x
theorem ecT_mono (B : Nat) (x : Ec) : Mono (EcT B x) := fun _ _ _ hb ⟨cs, h1, h2⟩ => ⟨cs, h1, (h2.below hb (Nat.le_refl _)).wide (Nat.le_refl _) hb.size⟩
theorem ecI_mono (B : Nat) (x : Ec) : Mono (EcI B x) := fun _ _ _ hb ⟨cs, h1, h2⟩ => ⟨cs, h1, (h2.below hb (Nat.le_refl _)).wide (Nat.le_refl _) hb.size⟩
theorem dgT_mono (B : Nat) (x : Dg) : Mono (DgT B x) := fun _ _ _ hb ⟨cs, h1, h2⟩ => ⟨cs, h1, (h2.below hb (Nat.le_refl _)).wide (Nat.le_refl _) hb.size⟩

set_option maxRecDepth 100000 in
set_option maxHeartbeats 4000000 in
theorem back_any (y s0 s1 s2 s3 d0 d1 d2 d3 : UInt8) (A : Option Addr) (l : List UInt8) (n c : Nat) (w : World) (hl : n = l.length) (hr : Rd w 0 w.heap.size A (cells l)) (hc : n ≤ c) (hm : c ≤ 9223372036854775807) (_hA : A = none → c = 0) :
    Calls Try.prog 8 #[.int .u8 (y.toNat : Int), .agg #[.int .u8 (s0.toNat : Int), .int .u8 (s1.toNat : Int), .int .u8 (s2.toNat : Int), .int .u8 (s3.toNat : Int), .int .u8 (d0.toNat : Int), .int .u8 (d1.toNat : Int), .int .u8 (d2.toNat : Int), .int .u8 (d3.toNat : Int)], .slice A n c] w fun e w' => e = .returned (.bool true) ∧ Below w.heap.size w w' := by
  have HN := Lib.hid hl
  have HR := Lib.hid hr
  have HB1 := Lib.hid ((Below.refl w.heap.size w).alloc (Nat.le_refl _) (.cells #[.int .u8 (s0.toNat : Int), .int .u8 (s1.toNat : Int), .int .u8 (s2.toNat : Int), .int .u8 (s3.toNat : Int), .int .u8 (d0.toNat : Int), .int .u8 (d1.toNat : Int), .int .u8 (d2.toNat : Int), .int .u8 (d3.toNat : Int)] 29))
  have HE1 := Lib.hid (heap_alloc_new w (.cells #[.int .u8 (s0.toNat : Int), .int .u8 (s1.toNat : Int), .int .u8 (s2.toNat : Int), .int .u8 (s3.toNat : Int), .int .u8 (d0.toNat : Int), .int .u8 (d1.toNat : Int), .int .u8 (d2.toNat : Int), .int .u8 (d3.toNat : Int)] 29))
  clear hl hr
  go_enter Try.func8, Try.ntmps8
  go_wp2_with fail
  refine (lives_any _).mono ?_
  rintro e w3 ⟨rfl, hb2⟩
  have HB3 := Lib.hid (HB1.out.trans (hb2.mono HB1.out.size))
  have HE3 : Hid (w3.heap[w.heap.size]? = some (.cells #[.int .u8 (s0.toNat : Int), .int .u8 (s1.toNat : Int), .int .u8 (s2.toNat : Int), .int .u8 (s3.toNat : Int), .int .u8 (d0.toNat : Int), .int .u8 (d1.toNat : Int), .int .u8 (d2.toNat : Int), .int .u8 (d3.toNat : Int)] 29 (0, 0))) := (hb2.block _ (row_lt HE1.out)).trans HE1.out
  clear hb2
  by_cases hbig : 1200 < n
  · go_wp2_with fail
    refine (lives_any _).mono ?_
    rintro e w9 ⟨rfl, hb3⟩
    have HB9 := Lib.hid (HB3.out.trans (hb3.mono HB3.out.size))
    clear hb3
    go_wp2
    go_ret
    exact ⟨rfl, HB9.out⟩
  have hyl := y.toNat_lt
  by_cases h1000 : 1000 < n
  · go_wp2_with (first | refine wpList_load_at rfl 27 _ rfl ⟨w.heap.size, 0, none⟩ rfl [.int .u8 (s0.toNat : Int), .int .u8 (s1.toNat : Int), .int .u8 (s2.toNat : Int), .int .u8 (s3.toNat : Int)] _ (ends_at HE3.out).1 Try.underlying27 rfl (by kernel_rfl) ?_ | refine wpList_load_at rfl 27 _ rfl ⟨w.heap.size, 4, none⟩ rfl [.int .u8 (d0.toNat : Int), .int .u8 (d1.toNat : Int), .int .u8 (d2.toNat : Int), .int .u8 (d3.toNat : Int)] _ (ends_at HE3.out).2 Try.underlying27 rfl (by kernel_rfl) ?_)
    refine (open_long (y.toNat : Int) A n c s0 s1 s2 s3 d0 d1 d2 d3 w3 (by omega) h1000).mono ?_
    rintro e w4 ⟨rfl, hb4⟩
    have HB4 := Lib.hid (HB3.out.trans (hb4.mono HB3.out.size))
    clear hb4
    go_wp2
    go_ret
    exact ⟨rfl, HB4.out⟩
  by_cases hy1 : y = 1
  · subst hy1
    go_wp2_with (first | refine wpList_load_at rfl 27 _ rfl ⟨w.heap.size, 0, none⟩ rfl [.int .u8 (s0.toNat : Int), .int .u8 (s1.toNat : Int), .int .u8 (s2.toNat : Int), .int .u8 (s3.toNat : Int)] _ (ends_at HE3.out).1 Try.underlying27 rfl (by kernel_rfl) ?_ | refine wpList_load_at rfl 27 _ rfl ⟨w.heap.size, 4, none⟩ rfl [.int .u8 (d0.toNat : Int), .int .u8 (d1.toNat : Int), .int .u8 (d2.toNat : Int), .int .u8 (d3.toNat : Int)] _ (ends_at HE3.out).2 Try.underlying27 rfl (by kernel_rfl) ?_)
    refine (open_ec A l n c 0 w.heap.size s0 s1 s2 s3 d0 d1 d2 d3 w3 (HR.out.below HB3.out (Nat.le_refl _)) HN.out.symm hc (by unfold maxLen; omega) HB3.out.size (by omega)).mono ?_
    obtain ⟨x, er, hxe⟩ : ∃ x er, ecOpen l = (x, er) := ⟨_, _, rfl⟩
    rw [hxe]
    rintro e w4 ⟨m, rfl, hb4, hm0, hm1⟩
    simp only at hm0 hm1
    have HB4 := Lib.hid (HB3.out.trans (hb4.mono HB3.out.size))
    have HE4 : Hid (w4.heap[w.heap.size]? = some (.cells #[.int .u8 (s0.toNat : Int), .int .u8 (s1.toNat : Int), .int .u8 (s2.toNat : Int), .int .u8 (s3.toNat : Int), .int .u8 (d0.toNat : Int), .int .u8 (d1.toNat : Int), .int .u8 (d2.toNat : Int), .int .u8 (d3.toNat : Int)] 29 (0, 0))) := (hb4.block _ (row_lt HE3.out)).trans HE3.out
    by_cases he : er = 0
    · subst he
      obtain ⟨cs, rfl, hcs⟩ := hm0 rfl
      obtain ⟨hok, hlen⟩ := ec_open_some hxe
      have hx992 : x.data.length ≤ 992 := by have := HN.out; omega
      have HBP : Hid (ecBuild x = (x.bytes, 0)) := by show _ = _; unfold ecBuild; rw [if_neg (by omega)]
      have HLEN : Hid (8 + x.data.length ≤ n) := by show _ ≤ _; rw [HN.out]; exact hlen
      have HCS := Lib.hid hcs
      have H34 : Hid (w3.heap.size ≤ w4.heap.size) := hb4.size
      have hop : ecOpen x.bytes = (x, 0) := ec_open_bytes hok
      have hbl := ec_length x
      clear hm0 hm1 hb4 hxe hcs hlen
      unfold ecM
      go_wp2_with (first | refine wpList_load_at rfl 27 _ rfl ⟨w.heap.size, 0, none⟩ rfl [.int .u8 (s0.toNat : Int), .int .u8 (s1.toNat : Int), .int .u8 (s2.toNat : Int), .int .u8 (s3.toNat : Int)] _ (ends_at HE4.out).1 Try.underlying27 rfl (by kernel_rfl) ?_ | refine wpList_load_at rfl 27 _ rfl ⟨w.heap.size, 4, none⟩ rfl [.int .u8 (d0.toNat : Int), .int .u8 (d1.toNat : Int), .int .u8 (d2.toNat : Int), .int .u8 (d3.toNat : Int)] _ (ends_at HE4.out).2 Try.underlying27 rfl (by kernel_rfl) ?_)
      refine (build_ec _ x s0 s1 s2 s3 d0 d1 d2 d3 w3.heap.size w4.heap.size w4 HCS.out (Nat.le_refl _)).mono ?_
      rw [HBP.out]
      rintro e w5 ⟨A5, c5, rfl, ho, hb5⟩
      have hro := (Rd.own ho).wide (Nat.zero_le _) (Nat.le_refl _)
      have hcap := own_cap ho
      generalize x.bytes = bs at hop hbl hro hcap ⊢
      simp only at hro hcap ⊢
      obtain ⟨L, hL⟩ : ∃ L, bs.length = L := ⟨_, rfl⟩
      rw [hL] at hcap hbl ⊢
      obtain ⟨hcap1, hcap2⟩ := hcap
      unfold maxLen at hcap2
      have HL := Lib.hid hL
      have HLN : Hid (L ≤ n) := by have := HLEN.out; show _ ≤ _; omega
      have hLb : L ≤ 1000 := by omega
      have HRO := Lib.hid hro
      have HOPB := Lib.hid hop
      have HB5 := Lib.hid (HB4.out.trans (hb5.mono HB4.out.size))
      have HW5 : Hid (w.heap.size ≤ w5.heap.size) := HB5.out.size
      have HE5 : Hid (w5.heap[w.heap.size]? = some (.cells #[.int .u8 (s0.toNat : Int), .int .u8 (s1.toNat : Int), .int .u8 (s2.toNat : Int), .int .u8 (s3.toNat : Int), .int .u8 (d0.toNat : Int), .int .u8 (d1.toNat : Int), .int .u8 (d2.toNat : Int), .int .u8 (d3.toNat : Int)] 29 (0, 0))) := (hb5.block _ (row_lt HE4.out)).trans HE4.out
      have HCS5 := Lib.hid ((HCS.out.below hb5 (Nat.le_refl _)).wide (lo' := w.heap.size) HB3.out.size hb5.size)
      have HS5 : Hid (∀ w', Gro (fun _ => False) w5 w' → ∀ j v, ([.int .u8 (s0.toNat : Int), .int .u8 (s1.toNat : Int), .int .u8 (s2.toNat : Int), .int .u8 (s3.toNat : Int)] : List Value)[j]? = some v → w'.cell? ((⟨w.heap.size, 0, none⟩ : Addr).add j) = some v) := fun w' hg => (ends_at ((hg.block _ (row_lt HE5.out) (fun h => h)).trans HE5.out)).1
      have HD5 : Hid (∀ w', Gro (fun _ => False) w5 w' → ∀ j v, ([.int .u8 (d0.toNat : Int), .int .u8 (d1.toNat : Int), .int .u8 (d2.toNat : Int), .int .u8 (d3.toNat : Int)] : List Value)[j]? = some v → w'.cell? ((⟨w.heap.size, 4, none⟩ : Addr).add j) = some v) := fun w' hg => (ends_at ((hg.block _ (row_lt HE5.out) (fun h => h)).trans HE5.out)).2
      have HOP : Hid (∀ w', Gro (fun _ => False) w5 w' → Calls Try.prog 13 #[.int .u8 1, .agg #[.int .u8 (s0.toNat : Int), .int .u8 (s1.toNat : Int), .int .u8 (s2.toNat : Int), .int .u8 (s3.toNat : Int)], .agg #[.int .u8 (d0.toNat : Int), .int .u8 (d1.toNat : Int), .int .u8 (d2.toNat : Int), .int .u8 (d3.toNat : Int)], .slice A5 L c5] w' (EcO w' (x, 0))) := fun w' hg => by
        have := open_ec A5 bs L c5 0 w5.heap.size s0 s1 s2 s3 d0 d1 d2 d3 w' (HRO.out.below hg.belowF (Nat.le_refl _)) HL.out hcap1 (by unfold maxLen; omega) hg.size hLb
        rw [HOPB.out] at this
        exact this
      clear ho hb5 hL hro hop hbl hx992
      go_wp2_with fail
      apply wp_region_rely (fun _ => False) (RL [Is _, Is (.int .u8 1), Is _, Is (.agg #[.int .u8 (s0.toNat : Int), .int .u8 (s1.toNat : Int), .int .u8 (s2.toNat : Int), .int .u8 (s3.toNat : Int)]), Is _, Is (.agg #[.int .u8 (d0.toNat : Int), .int .u8 (d1.toNat : Int), .int .u8 (d2.toNat : Int), .int .u8 (d3.toNat : Int)]), Is _, EcT w.heap.size x, EcT w.heap.size x, EcI w.heap.size x, Is (.int .i64 0), EcI w.heap.size x, Is _]) [false, false, false, false, false, false, false, false, false, false, false, true, true, false, false, false, false, false, false, false, false, false, false, false, false, false, false, false, false, false, false, false, false, false, false, false, false, false, false, false, false, false, false, false, true, true, true, true, true, true, true, true, true, true, true, false, false, false, false, false, false, false, false, false, false, false, false, false, false, false, false, false, false, false, false, false, false, false, false]
      · kernel_rfl
      · kernel_rfl
      · kernel_rfl
      · refine ⟨?_, ?_, ?_, ?_, ?_, ?_, ?_, ?_, ?_, ?_, ?_, ?_, ?_, trivial⟩
        · intro ev w' hC hc hf hb hr K hK
          have e7 : ev (.tmp 7) = _ := hb 7 (by kernel_rfl)
          have HK := Lib.hid hK
          have HC := Lib.hid hC
          clear hb hr hK hC hf
          unfold Run
          simp [execOp, Upon, go_sem, *]
          exact HK.out _ _ (.inl (Below.refl _ _)) rfl
        · intro ev w' hC hc hf hb hr K hK
          have e45 := hr 0 _ rfl (by kernel_rfl)
          change ev (.tmp 45) = _ at e45
          have HK := Lib.hid hK
          have HC := Lib.hid hC
          clear hb hr hK hC hf
          unfold Run
          simp [execOp, Upon, go_sem, *]
          refine (proto_ec _ _).mono ?_
          rintro e w2 ⟨rfl, hb⟩
          exact ⟨_, rfl, HK.out _ _ (.inl hb) rfl⟩
        · intro ev w' hC hc hf hb hr K hK
          have e4 : ev (.tmp 4) = _ := hb 4 (by kernel_rfl)
          have HK := Lib.hid hK
          have HC := Lib.hid hC
          clear hb hr hK hC hf
          unfold Run
          simp [execOp, Upon, go_sem, *]
          exact HK.out _ _ (.inl (Below.refl _ _)) rfl
        · intro ev w' hC hc hf hb hr K hK
          have e47 := hr 2 _ rfl (by kernel_rfl)
          change ev (.tmp 47) = _ at e47
          have HK := Lib.hid hK
          have HC := Lib.hid hC
          clear hb hr hK hC hf
          have hl := run_loadVar_at (P := Try.prog) w' ⟨w.heap.size, 0, none⟩ 27 ([.int .u8 (s0.toNat : Int), .int .u8 (s1.toNat : Int), .int .u8 (s2.toNat : Int), .int .u8 (s3.toNat : Int)]) _ (HS5.out w' HC.out) Try.underlying27 rfl (by kernel_rfl)
          have q : ev (.tmp 47) = .pointer (some ⟨w.heap.size, 0, none⟩) := e47
          unfold Run
          rw [run_loadE 27 _ rfl q hl]
          exact HK.out _ _ (.inl (Below.refl _ _)) rfl
        · intro ev w' hC hc hf hb hr K hK
          have e4 : ev (.tmp 4) = _ := hb 4 (by kernel_rfl)
          have HK := Lib.hid hK
          have HC := Lib.hid hC
          clear hb hr hK hC hf
          unfold Run
          simp [execOp, Upon, go_sem, *]
          exact HK.out _ _ (.inl (Below.refl _ _)) rfl
        · intro ev w' hC hc hf hb hr K hK
          have e49 := hr 4 _ rfl (by kernel_rfl)
          change ev (.tmp 49) = _ at e49
          have HK := Lib.hid hK
          have HC := Lib.hid hC
          clear hb hr hK hC hf
          have hl := run_loadVar_at (P := Try.prog) w' ⟨w.heap.size, 4, none⟩ 27 ([.int .u8 (d0.toNat : Int), .int .u8 (d1.toNat : Int), .int .u8 (d2.toNat : Int), .int .u8 (d3.toNat : Int)]) _ (HD5.out w' HC.out) Try.underlying27 rfl (by kernel_rfl)
          have q : ev (.tmp 49) = .pointer (some ⟨w.heap.size, 4, none⟩) := e49
          unfold Run
          rw [run_loadE 27 _ rfl q hl]
          exact HK.out _ _ (.inl (Below.refl _ _)) rfl
        · intro ev w' hC hc hf hb hr K hK
          have e9 : ev (.tmp 9) = _ := hb 9 (by kernel_rfl)
          have HK := Lib.hid hK
          have HC := Lib.hid hC
          clear hb hr hK hC hf
          unfold Run
          simp [execOp, Upon, go_sem, *]
          exact HK.out _ _ (.inl (Below.refl _ _)) rfl
        · intro ev w' hC hc hf hb hr K hK
          have e46 := hr 1 _ rfl (by kernel_rfl)
          have e48 := hr 3 _ rfl (by kernel_rfl)
          have e50 := hr 5 _ rfl (by kernel_rfl)
          have e51 := hr 6 _ rfl (by kernel_rfl)
          change ev (.tmp 46) = _ at e46
          change ev (.tmp 48) = _ at e48
          change ev (.tmp 50) = _ at e50
          change ev (.tmp 51) = _ at e51
          have HK := Lib.hid hK
          have HC := Lib.hid hC
          clear hb hr hK hC
          have HO := Lib.hid (HOP.out w' HC.out)
          unfold Run
          simp [execOp, Upon, go_sem, *]
          refine HO.out.mono ?_
          rintro e w2 ⟨m, rfl, hb, hm0, -⟩
          obtain ⟨cs2, rfl, h2⟩ := hm0 rfl
          exact ⟨_, rfl, HK.out _ _ (.inl hb) ⟨cs2, rfl, h2.wide (Nat.le_trans HW5.out HC.out.size) (Nat.le_refl _)⟩⟩
        · intro ev w' hC hc hf hb hr K hK
          have e52 := hr 7 _ rfl (by kernel_rfl)
          change (EcT w.heap.size x : Pred) (ev (.tmp 52)) _ at e52
          have HK := Lib.hid hK
          have HC := Lib.hid hC
          clear hb hr hK hC hf
          obtain ⟨cs2, q52, r52⟩ := e52
          have HZ := Lib.hid r52
          clear r52
          unfold Run
          simp [execOp, Upon, go_sem, *]
          exact HK.out _ _ (.inl (Below.refl _ _)) ⟨cs2, rfl, HZ.out⟩
        · intro ev w' hC hc hf hb hr K hK
          have e44 := hr 8 _ rfl (by kernel_rfl)
          change (EcT w.heap.size x : Pred) (ev (.tmp 44)) _ at e44
          have HK := Lib.hid hK
          have HC := Lib.hid hC
          clear hb hr hK hC hf
          obtain ⟨cs2, q44, r44⟩ := e44
          have HZ := Lib.hid r44
          clear r44
          unfold Run
          simp [execOp, Upon, go_sem, *]
          exact HK.out _ _ (.inl (Below.refl _ _)) ⟨cs2, rfl, HZ.out⟩
        · intro ev w' hC hc hf hb hr K hK
          have e44 := hr 8 _ rfl (by kernel_rfl)
          change (EcT w.heap.size x : Pred) (ev (.tmp 44)) _ at e44
          have HK := Lib.hid hK
          have HC := Lib.hid hC
          clear hb hr hK hC hf
          obtain ⟨cs2, q44, r44⟩ := e44
          clear r44
          unfold Run
          simp [execOp, Upon, go_sem, *]
          exact HK.out _ _ (.inl (Below.refl _ _)) rfl
        · intro ev w' hC hc hf hb hr K hK
          have e53 := hr 9 _ rfl (by kernel_rfl)
          change (EcI w.heap.size x : Pred) (ev (.tmp 53)) _ at e53
          have HK := Lib.hid hK
          have HC := Lib.hid hC
          clear hb hr hK hC hf
          obtain ⟨cs2, q53, r53⟩ := e53
          have HZ := Lib.hid r53
          clear r53
          unfold Run
          simp [execOp, Upon, go_sem, *]
          exact HK.out _ _ (.inl (Below.refl _ _)) ⟨cs2, rfl, HZ.out⟩
        · intro ev w' hC hc hf hb hr K hK
          have e54 := hr 10 _ rfl (by kernel_rfl)
          change ev (.tmp 54) = _ at e54
          have HK := Lib.hid hK
          have HC := Lib.hid hC
          clear hb hr hK hC hf
          unfold Run
          simp [execOp, Upon, go_sem, *]
          exact HK.out _ _ (.inl (Below.refl _ _)) rfl
      · exact rl_mono ⟨is_mono _, is_mono _, is_mono _, is_mono _, is_mono _, is_mono _, is_mono _, ecT_mono _ _, ecT_mono _ _, ecI_mono _ _, is_mono _, ecI_mono _ _, is_mono _, trivial⟩
      intro us wr hG hH
      obtain ⟨-, -, -, -, -, -, -, -, -, -, -, h11, h12, -⟩ := hH
      simp only [fillM]
      change (EcI w.heap.size x : Pred) (us 11) wr at h11
      change us 12 = _ at h12
      rw [h12]
      clear h12
      generalize us 45 = v45
      generalize us 46 = v46
      generalize us 47 = v47
      generalize us 48 = v48
      generalize us 49 = v49
      generalize us 50 = v50
      generalize us 51 = v51
      generalize us 52 = v52
      generalize us 44 = v44
      generalize us 53 = v53
      generalize us 54 = v54
      generalize us 11 = v11 at h11 ⊢
      obtain ⟨cs2, rfl, hc2⟩ := h11
      have HB6 := Lib.hid (HB5.out.trans (hG.belowF.mono HB5.out.size))
      have HC2 := Lib.hid hc2
      have HC1 := Lib.hid ((HCS5.out.below hG.belowF (Nat.le_refl _)).wide (Nat.le_refl _) hG.size)
      clear hc2 hG
      unfold ecM
      go_wp2_with fail
      refine (proto_ec _ _).mono ?_
      rintro e w7 ⟨rfl, hb7⟩
      have HB7 := Lib.hid (HB6.out.trans (hb7.mono HB6.out.size))
      have HC2b := Lib.hid ((HC2.out.below hb7 (Nat.le_refl _)).wide (Nat.le_refl _) hb7.size)
      have HC1b := Lib.hid ((HC1.out.below hb7 (Nat.le_refl _)).wide (Nat.le_refl _) hb7.size)
      clear hb7
      go_wp2_with fail
      refine (same_ec cs cs2 x x w.heap.size w7.heap.size w.heap.size w7.heap.size w7 HC1b.out HC2b.out (Nat.le_refl _) (Nat.le_refl _)).mono ?_
      rw [ecEq_self]
      rintro e w8 ⟨rfl, hb8⟩
      have HB8 := Lib.hid (HB7.out.trans (hb8.mono HB7.out.size))
      clear hb8
      have hln : (L : Int) ≤ (n : Int) := by have := HLN.out; omega
      have hdl : decide ((L : Int) ≤ (n : Int)) = true := decide_eq_true hln
      go_wp2
      go_ret
      exact ⟨rfl, HB8.out⟩
    · have qe := bneT he
      have hnil := hm1 he
      subst hnil
      clear hm0 hm1 hb4 hxe
      go_wp2
      go_ret
      exact ⟨rfl, HB4.out⟩
  by_cases hy17 : y = 17
  · subst hy17
    go_wp2_with (first | refine wpList_load_at rfl 27 _ rfl ⟨w.heap.size, 0, none⟩ rfl [.int .u8 (s0.toNat : Int), .int .u8 (s1.toNat : Int), .int .u8 (s2.toNat : Int), .int .u8 (s3.toNat : Int)] _ (ends_at HE3.out).1 Try.underlying27 rfl (by kernel_rfl) ?_ | refine wpList_load_at rfl 27 _ rfl ⟨w.heap.size, 4, none⟩ rfl [.int .u8 (d0.toNat : Int), .int .u8 (d1.toNat : Int), .int .u8 (d2.toNat : Int), .int .u8 (d3.toNat : Int)] _ (ends_at HE3.out).2 Try.underlying27 rfl (by kernel_rfl) ?_)
    refine (open_dg A l n c 0 w.heap.size s0 s1 s2 s3 d0 d1 d2 d3 w3 (HR.out.below HB3.out (Nat.le_refl _)) HN.out.symm hc (by unfold maxLen; omega) HB3.out.size (by omega)).mono ?_
    obtain ⟨x, er, hxe⟩ : ∃ x er, dgOpen [s0, s1, s2, s3] [d0, d1, d2, d3] l = (x, er) := ⟨_, _, rfl⟩
    rw [hxe]
    rintro e w4 ⟨m, rfl, hb4, hm0, hm1⟩
    simp only at hm0 hm1
    have HB4 := Lib.hid (HB3.out.trans (hb4.mono HB3.out.size))
    have HE4 : Hid (w4.heap[w.heap.size]? = some (.cells #[.int .u8 (s0.toNat : Int), .int .u8 (s1.toNat : Int), .int .u8 (s2.toNat : Int), .int .u8 (s3.toNat : Int), .int .u8 (d0.toNat : Int), .int .u8 (d1.toNat : Int), .int .u8 (d2.toNat : Int), .int .u8 (d3.toNat : Int)] 29 (0, 0))) := (hb4.block _ (row_lt HE3.out)).trans HE3.out
    by_cases he : er = 0
    · subst he
      obtain ⟨cs, rfl, hcs⟩ := hm0 rfl
      obtain ⟨hok, hlen⟩ := dg_open_some hxe
      have hx992 : x.data.length ≤ 992 := by have := HN.out; omega
      have HBP : Hid (dgBuild [s0, s1, s2, s3] [d0, d1, d2, d3] x = (x.bytes [s0, s1, s2, s3] [d0, d1, d2, d3], 0)) := by show _ = _; unfold dgBuild; rw [if_neg (by omega)]
      have HLEN : Hid (8 + x.data.length ≤ n) := by show _ ≤ _; rw [HN.out]; exact hlen
      have HCS := Lib.hid hcs
      have H34 : Hid (w3.heap.size ≤ w4.heap.size) := hb4.size
      have hop : dgOpen [s0, s1, s2, s3] [d0, d1, d2, d3] (x.bytes [s0, s1, s2, s3] [d0, d1, d2, d3]) = (x, 0) := (by have := dg_open_bytes (s := [s0, s1, s2, s3]) (d := [d0, d1, d2, d3]) hok rfl rfl (by omega) []; rwa [List.append_nil] at this)
      have hbl := dg_length [s0, s1, s2, s3] [d0, d1, d2, d3] x
      clear hm0 hm1 hb4 hxe hcs hlen
      unfold dgM
      go_wp2_with (first | refine wpList_load_at rfl 27 _ rfl ⟨w.heap.size, 0, none⟩ rfl [.int .u8 (s0.toNat : Int), .int .u8 (s1.toNat : Int), .int .u8 (s2.toNat : Int), .int .u8 (s3.toNat : Int)] _ (ends_at HE4.out).1 Try.underlying27 rfl (by kernel_rfl) ?_ | refine wpList_load_at rfl 27 _ rfl ⟨w.heap.size, 4, none⟩ rfl [.int .u8 (d0.toNat : Int), .int .u8 (d1.toNat : Int), .int .u8 (d2.toNat : Int), .int .u8 (d3.toNat : Int)] _ (ends_at HE4.out).2 Try.underlying27 rfl (by kernel_rfl) ?_)
      refine (build_dg _ x s0 s1 s2 s3 d0 d1 d2 d3 w3.heap.size w4.heap.size w4 HCS.out (Nat.le_refl _)).mono ?_
      rw [HBP.out]
      rintro e w5 ⟨A5, c5, rfl, ho, hb5⟩
      have hro := (Rd.own ho).wide (Nat.zero_le _) (Nat.le_refl _)
      have hcap := own_cap ho
      generalize x.bytes [s0, s1, s2, s3] [d0, d1, d2, d3] = bs at hop hbl hro hcap ⊢
      simp only at hro hcap ⊢
      obtain ⟨L, hL⟩ : ∃ L, bs.length = L := ⟨_, rfl⟩
      rw [hL] at hcap hbl ⊢
      obtain ⟨hcap1, hcap2⟩ := hcap
      unfold maxLen at hcap2
      have HL := Lib.hid hL
      have HLN : Hid (L ≤ n) := by have := HLEN.out; show _ ≤ _; omega
      have hLb : L ≤ 1000 := by omega
      have HRO := Lib.hid hro
      have HOPB := Lib.hid hop
      have HB5 := Lib.hid (HB4.out.trans (hb5.mono HB4.out.size))
      have HW5 : Hid (w.heap.size ≤ w5.heap.size) := HB5.out.size
      have HE5 : Hid (w5.heap[w.heap.size]? = some (.cells #[.int .u8 (s0.toNat : Int), .int .u8 (s1.toNat : Int), .int .u8 (s2.toNat : Int), .int .u8 (s3.toNat : Int), .int .u8 (d0.toNat : Int), .int .u8 (d1.toNat : Int), .int .u8 (d2.toNat : Int), .int .u8 (d3.toNat : Int)] 29 (0, 0))) := (hb5.block _ (row_lt HE4.out)).trans HE4.out
      have HCS5 := Lib.hid ((HCS.out.below hb5 (Nat.le_refl _)).wide (lo' := w.heap.size) HB3.out.size hb5.size)
      have HS5 : Hid (∀ w', Gro (fun _ => False) w5 w' → ∀ j v, ([.int .u8 (s0.toNat : Int), .int .u8 (s1.toNat : Int), .int .u8 (s2.toNat : Int), .int .u8 (s3.toNat : Int)] : List Value)[j]? = some v → w'.cell? ((⟨w.heap.size, 0, none⟩ : Addr).add j) = some v) := fun w' hg => (ends_at ((hg.block _ (row_lt HE5.out) (fun h => h)).trans HE5.out)).1
      have HD5 : Hid (∀ w', Gro (fun _ => False) w5 w' → ∀ j v, ([.int .u8 (d0.toNat : Int), .int .u8 (d1.toNat : Int), .int .u8 (d2.toNat : Int), .int .u8 (d3.toNat : Int)] : List Value)[j]? = some v → w'.cell? ((⟨w.heap.size, 4, none⟩ : Addr).add j) = some v) := fun w' hg => (ends_at ((hg.block _ (row_lt HE5.out) (fun h => h)).trans HE5.out)).2
      have HOP : Hid (∀ w', Gro (fun _ => False) w5 w' → Calls Try.prog 13 #[.int .u8 17, .agg #[.int .u8 (s0.toNat : Int), .int .u8 (s1.toNat : Int), .int .u8 (s2.toNat : Int), .int .u8 (s3.toNat : Int)], .agg #[.int .u8 (d0.toNat : Int), .int .u8 (d1.toNat : Int), .int .u8 (d2.toNat : Int), .int .u8 (d3.toNat : Int)], .slice A5 L c5] w' (DgO w' (x, 0))) := fun w' hg => by
        have := open_dg A5 bs L c5 0 w5.heap.size s0 s1 s2 s3 d0 d1 d2 d3 w' (HRO.out.below hg.belowF (Nat.le_refl _)) HL.out hcap1 (by unfold maxLen; omega) hg.size hLb
        rw [HOPB.out] at this
        exact this
      clear ho hb5 hL hro hop hbl hx992
      go_wp2_with fail
      apply wp_region_rely (fun _ => False) (RL [Is _, Is (.int .u8 17), Is _, Is (.agg #[.int .u8 (s0.toNat : Int), .int .u8 (s1.toNat : Int), .int .u8 (s2.toNat : Int), .int .u8 (s3.toNat : Int)]), Is _, Is (.agg #[.int .u8 (d0.toNat : Int), .int .u8 (d1.toNat : Int), .int .u8 (d2.toNat : Int), .int .u8 (d3.toNat : Int)]), Is _, DgT w.heap.size x, DgT w.heap.size x, DgI w.heap.size x, Is (.int .i64 0), DgI w.heap.size x, Is _]) [false, false, false, false, false, false, false, false, false, false, false, true, true, false, false, false, false, false, false, false, false, false, false, false, false, false, false, false, false, false, false, false, false, false, false, false, false, false, false, false, false, false, false, false, true, true, true, true, true, true, true, true, true, true, true, false, false, false, false, false, false, false, false, false, false, false, false, false, false, false, false, false, false, false, false, false, false, false, false]
      · kernel_rfl
      · kernel_rfl
      · kernel_rfl
      · refine ⟨?_, ?_, ?_, ?_, ?_, ?_, ?_, ?_, ?_, ?_, ?_, ?_, ?_, trivial⟩
        · intro ev w' hC hc hf hb hr K hK
          have e7 : ev (.tmp 7) = _ := hb 7 (by kernel_rfl)
          have HK := Lib.hid hK
          have HC := Lib.hid hC
          clear hb hr hK hC hf
          unfold Run
          simp [execOp, Upon, go_sem, *]
          exact HK.out _ _ (.inl (Below.refl _ _)) rfl
        · intro ev w' hC hc hf hb hr K hK
          have e45 := hr 0 _ rfl (by kernel_rfl)
          change ev (.tmp 45) = _ at e45
          have HK := Lib.hid hK
          have HC := Lib.hid hC
          clear hb hr hK hC hf
          unfold Run
          simp [execOp, Upon, go_sem, *]
          refine (proto_dg _ _).mono ?_
          rintro e w2 ⟨rfl, hb⟩
          exact ⟨_, rfl, HK.out _ _ (.inl hb) rfl⟩
        · intro ev w' hC hc hf hb hr K hK
          have e4 : ev (.tmp 4) = _ := hb 4 (by kernel_rfl)
          have HK := Lib.hid hK
          have HC := Lib.hid hC
          clear hb hr hK hC hf
          unfold Run
          simp [execOp, Upon, go_sem, *]
          exact HK.out _ _ (.inl (Below.refl _ _)) rfl
        · intro ev w' hC hc hf hb hr K hK
          have e47 := hr 2 _ rfl (by kernel_rfl)
          change ev (.tmp 47) = _ at e47
          have HK := Lib.hid hK
          have HC := Lib.hid hC
          clear hb hr hK hC hf
          have hl := run_loadVar_at (P := Try.prog) w' ⟨w.heap.size, 0, none⟩ 27 ([.int .u8 (s0.toNat : Int), .int .u8 (s1.toNat : Int), .int .u8 (s2.toNat : Int), .int .u8 (s3.toNat : Int)]) _ (HS5.out w' HC.out) Try.underlying27 rfl (by kernel_rfl)
          have q : ev (.tmp 47) = .pointer (some ⟨w.heap.size, 0, none⟩) := e47
          unfold Run
          rw [run_loadE 27 _ rfl q hl]
          exact HK.out _ _ (.inl (Below.refl _ _)) rfl
        · intro ev w' hC hc hf hb hr K hK
          have e4 : ev (.tmp 4) = _ := hb 4 (by kernel_rfl)
          have HK := Lib.hid hK
          have HC := Lib.hid hC
          clear hb hr hK hC hf
          unfold Run
          simp [execOp, Upon, go_sem, *]
          exact HK.out _ _ (.inl (Below.refl _ _)) rfl
        · intro ev w' hC hc hf hb hr K hK
          have e49 := hr 4 _ rfl (by kernel_rfl)
          change ev (.tmp 49) = _ at e49
          have HK := Lib.hid hK
          have HC := Lib.hid hC
          clear hb hr hK hC hf
          have hl := run_loadVar_at (P := Try.prog) w' ⟨w.heap.size, 4, none⟩ 27 ([.int .u8 (d0.toNat : Int), .int .u8 (d1.toNat : Int), .int .u8 (d2.toNat : Int), .int .u8 (d3.toNat : Int)]) _ (HD5.out w' HC.out) Try.underlying27 rfl (by kernel_rfl)
          have q : ev (.tmp 49) = .pointer (some ⟨w.heap.size, 4, none⟩) := e49
          unfold Run
          rw [run_loadE 27 _ rfl q hl]
          exact HK.out _ _ (.inl (Below.refl _ _)) rfl
        · intro ev w' hC hc hf hb hr K hK
          have e9 : ev (.tmp 9) = _ := hb 9 (by kernel_rfl)
          have HK := Lib.hid hK
          have HC := Lib.hid hC
          clear hb hr hK hC hf
          unfold Run
          simp [execOp, Upon, go_sem, *]
          exact HK.out _ _ (.inl (Below.refl _ _)) rfl
        · intro ev w' hC hc hf hb hr K hK
          have e46 := hr 1 _ rfl (by kernel_rfl)
          have e48 := hr 3 _ rfl (by kernel_rfl)
          have e50 := hr 5 _ rfl (by kernel_rfl)
          have e51 := hr 6 _ rfl (by kernel_rfl)
          change ev (.tmp 46) = _ at e46
          change ev (.tmp 48) = _ at e48
          change ev (.tmp 50) = _ at e50
          change ev (.tmp 51) = _ at e51
          have HK := Lib.hid hK
          have HC := Lib.hid hC
          clear hb hr hK hC
          have HO := Lib.hid (HOP.out w' HC.out)
          unfold Run
          simp [execOp, Upon, go_sem, *]
          refine HO.out.mono ?_
          rintro e w2 ⟨m, rfl, hb, hm0, -⟩
          obtain ⟨cs2, rfl, h2⟩ := hm0 rfl
          exact ⟨_, rfl, HK.out _ _ (.inl hb) ⟨cs2, rfl, h2.wide (Nat.le_trans HW5.out HC.out.size) (Nat.le_refl _)⟩⟩
        · intro ev w' hC hc hf hb hr K hK
          have e52 := hr 7 _ rfl (by kernel_rfl)
          change (DgT w.heap.size x : Pred) (ev (.tmp 52)) _ at e52
          have HK := Lib.hid hK
          have HC := Lib.hid hC
          clear hb hr hK hC hf
          obtain ⟨cs2, q52, r52⟩ := e52
          have HZ := Lib.hid r52
          clear r52
          unfold Run
          simp [execOp, Upon, go_sem, *]
          exact HK.out _ _ (.inl (Below.refl _ _)) ⟨cs2, rfl, HZ.out⟩
        · intro ev w' hC hc hf hb hr K hK
          have e44 := hr 8 _ rfl (by kernel_rfl)
          change (DgT w.heap.size x : Pred) (ev (.tmp 44)) _ at e44
          have HK := Lib.hid hK
          have HC := Lib.hid hC
          clear hb hr hK hC hf
          obtain ⟨cs2, q44, r44⟩ := e44
          have HZ := Lib.hid r44
          clear r44
          unfold Run
          simp [execOp, Upon, go_sem, *]
          exact HK.out _ _ (.inl (Below.refl _ _)) ⟨cs2, rfl, HZ.out⟩
        · intro ev w' hC hc hf hb hr K hK
          have e44 := hr 8 _ rfl (by kernel_rfl)
          change (DgT w.heap.size x : Pred) (ev (.tmp 44)) _ at e44
          have HK := Lib.hid hK
          have HC := Lib.hid hC
          clear hb hr hK hC hf
          obtain ⟨cs2, q44, r44⟩ := e44
          clear r44
          unfold Run
          simp [execOp, Upon, go_sem, *]
          exact HK.out _ _ (.inl (Below.refl _ _)) rfl
        · intro ev w' hC hc hf hb hr K hK
          have e53 := hr 9 _ rfl (by kernel_rfl)
          change (DgI w.heap.size x : Pred) (ev (.tmp 53)) _ at e53
          have HK := Lib.hid hK
          have HC := Lib.hid hC
          clear hb hr hK hC hf
          obtain ⟨cs2, q53, r53⟩ := e53
          have HZ := Lib.hid r53
          clear r53
          unfold Run
          simp [execOp, Upon, go_sem, *]
          exact HK.out _ _ (.inl (Below.refl _ _)) ⟨cs2, rfl, HZ.out⟩
        · intro ev w' hC hc hf hb hr K hK
          have e54 := hr 10 _ rfl (by kernel_rfl)
          change ev (.tmp 54) = _ at e54
          have HK := Lib.hid hK
          have HC := Lib.hid hC
          clear hb hr hK hC hf
          unfold Run
          simp [execOp, Upon, go_sem, *]
          exact HK.out _ _ (.inl (Below.refl _ _)) rfl
      · exact rl_mono ⟨is_mono _, is_mono _, is_mono _, is_mono _, is_mono _, is_mono _, is_mono _, dgT_mono _ _, dgT_mono _ _, dgI_mono _ _, is_mono _, dgI_mono _ _, is_mono _, trivial⟩
      intro us wr hG hH
      obtain ⟨-, -, -, -, -, -, -, -, -, -, -, h11, h12, -⟩ := hH
      simp only [fillM]
      change (DgI w.heap.size x : Pred) (us 11) wr at h11
      change us 12 = _ at h12
      rw [h12]
      clear h12
      generalize us 45 = v45
      generalize us 46 = v46
      generalize us 47 = v47
      generalize us 48 = v48
      generalize us 49 = v49
      generalize us 50 = v50
      generalize us 51 = v51
      generalize us 52 = v52
      generalize us 44 = v44
      generalize us 53 = v53
      generalize us 54 = v54
      generalize us 11 = v11 at h11 ⊢
      obtain ⟨cs2, rfl, hc2⟩ := h11
      have HB6 := Lib.hid (HB5.out.trans (hG.belowF.mono HB5.out.size))
      have HC2 := Lib.hid hc2
      have HC1 := Lib.hid ((HCS5.out.below hG.belowF (Nat.le_refl _)).wide (Nat.le_refl _) hG.size)
      clear hc2 hG
      unfold dgM
      go_wp2_with fail
      refine (proto_dg _ _).mono ?_
      rintro e w7 ⟨rfl, hb7⟩
      have HB7 := Lib.hid (HB6.out.trans (hb7.mono HB6.out.size))
      have HC2b := Lib.hid ((HC2.out.below hb7 (Nat.le_refl _)).wide (Nat.le_refl _) hb7.size)
      have HC1b := Lib.hid ((HC1.out.below hb7 (Nat.le_refl _)).wide (Nat.le_refl _) hb7.size)
      clear hb7
      go_wp2_with fail
      refine (same_dg cs cs2 x x w.heap.size w7.heap.size w.heap.size w7.heap.size w7 HC1b.out HC2b.out (Nat.le_refl _) (Nat.le_refl _)).mono ?_
      rw [dgEq_self]
      rintro e w8 ⟨rfl, hb8⟩
      have HB8 := Lib.hid (HB7.out.trans (hb8.mono HB7.out.size))
      clear hb8
      have hln : (L : Int) ≤ (n : Int) := by have := HLN.out; omega
      have hdl : decide ((L : Int) ≤ (n : Int)) = true := decide_eq_true hln
      go_wp2
      go_ret
      exact ⟨rfl, HB8.out⟩
    · have qe := bneT he
      have hnil := hm1 he
      subst hnil
      clear hm0 hm1 hb4 hxe
      go_wp2
      go_ret
      exact ⟨rfl, HB4.out⟩
  go_wp2_with (first | refine wpList_load_at rfl 27 _ rfl ⟨w.heap.size, 0, none⟩ rfl [.int .u8 (s0.toNat : Int), .int .u8 (s1.toNat : Int), .int .u8 (s2.toNat : Int), .int .u8 (s3.toNat : Int)] _ (ends_at HE3.out).1 Try.underlying27 rfl (by kernel_rfl) ?_ | refine wpList_load_at rfl 27 _ rfl ⟨w.heap.size, 4, none⟩ rfl [.int .u8 (d0.toNat : Int), .int .u8 (d1.toNat : Int), .int .u8 (d2.toNat : Int), .int .u8 (d3.toNat : Int)] _ (ends_at HE3.out).2 Try.underlying27 rfl (by kernel_rfl) ?_)
  refine (open_none y A n c s0 s1 s2 s3 d0 d1 d2 d3 w3 (by omega) hy1 hy17).mono ?_
  rintro e w4 ⟨rfl, hb4⟩
  have HB4 := Lib.hid (HB3.out.trans (hb4.mono HB3.out.size))
  clear hb4
  go_wp2
  go_ret
  exact ⟨rfl, HB4.out⟩
end Go.Proofs.Ythkpkhhnlenioaa
