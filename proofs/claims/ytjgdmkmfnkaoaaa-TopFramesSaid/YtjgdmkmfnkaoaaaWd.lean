/-
  segment's small functions: pair, four, word, long, pseudo, writeOptions: their answers, for all that can be read. No condition.
-/
import Derived.Test.YtjgdmkmfnkaoaaaBytes
import Derived.Test.YtjgdmkmfnkaoaaaSg
namespace Go.Proofs.Ytjgdmkmfnkaoaaa
open Go.RowKit

set_option maxRecDepth 100000 in
theorem spair_any (n : Nat) (w : World) (hn : n < 65536) : Calls Try.prog 29 #[.int .u16 n] w (FreshPost w (two n)) := by
  have h1 := small_hi n hn
  have h2 := byte_lo n
  have HT : Hid (two n = [UInt8.ofNat (n / 256), UInt8.ofNat n]) := rfl
  generalize UInt8.ofNat (n / 256) = a at h1 HT
  generalize UInt8.ofNat n = b at h2 HT
  go_enter Try.func29, Try.ntmps29
  go_wp2
  go_ret
  exact ⟨_, rfl, ⟨some ⟨w.heap.size, 0, none⟩, 2, by rw [HT.out]; rfl, by rw [HT.out, World.size_alloc]; exact rd_new w (cells [a, b]) 5 (0, 0), (fun h => by cases h), (by rw [HT.out]; exact Nat.le_refl _), (by unfold maxLen; omega)⟩, (Below.refl _ _).alloc (Nat.le_refl _) _⟩
set_option maxRecDepth 100000 in
/-- the same, as a row of the call's own -/
theorem spair_own (n : Nat) (w : World) (hn : n < 65536) : Calls Try.prog 29 #[.int .u16 n] w fun e w' => ∃ v, e = .returned v ∧ w'.ownsRow w.heap.size 5 1 v 2 (cells (two n)) ∧ Below w.heap.size w w' := by
  have h1 := small_hi n hn
  have h2 := byte_lo n
  have HT : Hid (two n = [UInt8.ofNat (n / 256), UInt8.ofNat n]) := rfl
  generalize UInt8.ofNat (n / 256) = a at h1 HT
  generalize UInt8.ofNat n = b at h2 HT
  go_enter Try.func29, Try.ntmps29
  go_wp2
  go_ret
  exact ⟨_, rfl, by rw [HT.out]; exact own_lit w (cells [a, b]) 5 w.heap.size w.heap.size 2 rfl (Nat.le_refl _) (by unfold maxLen; omega) rfl, (Below.refl _ _).alloc (Nat.le_refl _) _⟩
theorem or_word (x y : Nat) (hx : x < 256) (hy : y < 256) : bits .or .u16 ((x : Int) * 256) (y : Int) = ((256 * x + y : Nat) : Int) := by
  have e : (x : Int) * 256 = ((x * 256 : Nat) : Int) := by omega
  rw [e, u16_or_nat _ _ (by omega) (by omega), or_byte x y hy, Nat.mul_comm]
theorem or_half (g c : Nat) (hc : c < 65536) : g * 65536 ||| c = g * 65536 + c := by
  have h := Nat.two_pow_add_eq_or_of_lt (i := 16) (b := c) (by omega) g
  rw [show (2 : Nat) ^ 16 = 65536 from rfl] at h
  rw [Nat.mul_comm g 65536, h]
theorem or_long (x y : Nat) (hx : x < 65536) (hy : y < 65536) : bits .or .u32 ((x : Int) * 65536) (y : Int) = ((x * 65536 + y : Nat) : Int) := by
  have e : (x : Int) * 65536 = ((x * 65536 : Nat) : Int) := by omega
  rw [e, u32_or_nat _ _ (by omega) (by omega), or_half x y hy]
set_option maxRecDepth 100000 in
set_option maxHeartbeats 400000 in
theorem sword_any (A : Option Addr) (l : List UInt8) (k c lo hi : Nat) (w : World) (h : Rd w lo hi A (cells l)) (hk : k + 1 < l.length) (hm : l.length ≤ maxLen) :
    Calls Try.prog 71 #[.slice A l.length c, .int .i64 k] w fun e w' => e = .returned (.int .u16 (numAt l k : Nat)) ∧ Below w.heap.size w w' := by
  obtain ⟨ad, rfl, h1⟩ := h.byte (k := k) (by omega)
  obtain ⟨ad', e, h2⟩ := h.byte (k := k + 1) hk
  cases e
  have e2 : ad.add (k + 1) = ⟨ad.block, ad.off + (k + 1), none⟩ := by unfold Addr.add; simp
  rw [e2] at h2
  clear e2
  have HN : Hid (numAt l k = 256 * l[k].toNat + l[k + 1].toNat) := by
    show _ = _
    unfold numAt
    simp [List.getD_eq_getElem?_getD, show k < l.length from by omega, hk]
  have b1 := l[k].toNat_lt
  have b2 := l[k + 1].toNat_lt
  generalize l[k].toNat = x at *
  generalize l[k + 1].toNat = y at *
  generalize l.length = n at *
  have eo := or_word x y (by omega) (by omega)
  have EO := Lib.hid eo
  unfold maxLen at hm
  clear h eo
  go_enter Try.func71, Try.ntmps71
  go_wp2_with fail
  have i0 : (0 : Int) ≤ (k : Int) := by omega
  have i1 : (k : Int) < (n : Int) := by omega
  have i2 : (0 : Int) ≤ (k : Int) + 1 := by omega
  have i3 : (k : Int) + 1 < (n : Int) := by omega
  have i4 : ((k : Int) + 1).toNat = k + 1 := by omega
  have e1 : IntKind.i64.wrap ((k : Int) + 1) = (k : Int) + 1 := IntWalk.i64_in _ ⟨by omega, by omega⟩
  go_quiet (fail)
  go_wp2
  go_ret
  exact ⟨by rw [HN.out, ← EO.out]; rfl, below_drewN' (Below.refl _ _) _⟩
set_option maxRecDepth 100000 in
set_option maxHeartbeats 400000 in
theorem slong_any (A : Option Addr) (l : List UInt8) (k c lo hi : Nat) (w : World) (h : Rd w lo hi A (cells l)) (hhi : hi ≤ w.heap.size) (hk : k + 3 < l.length) (hm : l.length ≤ maxLen) :
    Calls Try.prog 72 #[.slice A l.length c, .int .i64 k] w fun e w' => e = .returned (.int .u32 (num4 l k : Nat)) ∧ Below w.heap.size w w' := by
  have H1 := Lib.hid (sword_any A l k c lo hi w h (by omega) hm)
  have H2 : Hid (∀ w', Below w.heap.size w w' → Calls Try.prog 71 #[.slice A l.length c, .int .i64 ((k : Int) + 2)] w' fun e w'' => e = .returned (.int .u16 (numAt l (k + 2) : Nat)) ∧ Below w'.heap.size w' w'') := fun w' hb => by
    have := sword_any A l (k + 2) c lo hi w' (h.below hb hhi) (by omega) hm
    rwa [show ((k + 2 : Nat) : Int) = (k : Int) + 2 from by omega] at this
  have HV : Hid (num4 l k = numAt l k * 65536 + numAt l (k + 2)) := rfl
  have b1 := numAt_le l k
  have b2 := numAt_le l (k + 2)
  generalize numAt l k = x at *
  generalize numAt l (k + 2) = y at *
  generalize l.length = n at *
  unfold maxLen at hm
  clear h hhi
  have eo := or_long x y (by omega) (by omega)
  go_enter Try.func72, Try.ntmps72
  go_wp2_with fail
  refine H1.out.mono ?_
  rintro e w1 ⟨rfl, hb⟩
  have HB := Lib.hid hb
  clear hb
  go_wp2_with fail
  refine (H2.out w1 HB.out).mono ?_
  rintro e w2 ⟨rfl, hb2⟩
  have HB2 := Lib.hid (HB.out.trans (hb2.mono HB.out.size))
  clear hb2
  go_wp2
  go_ret
  exact ⟨by rw [HV.out]; rfl, HB2.out⟩
theorem fresh_own {B : Nat} {v : Value} {l : List UInt8} {n : Nat} {w : World} (h : w.ownsRow B 5 1 v n (cells l)) (hn : l.length = n) : Fresh B l v w := by
  obtain ⟨A, c, rfl⟩ := own_form h
  have hc := own_cap h
  refine ⟨A, c, by rw [hn], Rd.own h, ?_, by omega, hc.2⟩
  rintro rfl
  rcases h.2 with ⟨he, _⟩ | ⟨g, cap, cur, he, _⟩
  · injection he
  · cases he
set_option maxRecDepth 100000 in
set_option maxHeartbeats 400000 in
theorem sfour_any (n : Nat) (w : World) (hn : n < 4294967296) : Calls Try.prog 30 #[.int .u32 n] w (FreshPost w (four n)) := by
  obtain ⟨i0, hi0, hz0, hz1, hz2⟩ := info_parts info_u8
  have h1 : (n : Int) / 65536 = ((n / 65536 : Nat) : Int) := by omega
  have h2 : IntKind.u16.wrap (n : Int) = ((n % 65536 : Nat) : Int) := by
    show (n : Int) % 65536 = _
    omega
  have HT : Hid (four n = two (n / 65536) ++ two (n % 65536)) := rfl
  have b1 : n / 65536 < 65536 := by omega
  have b2 : n % 65536 < 65536 := by omega
  generalize n / 65536 = x at h1 HT b1
  generalize n % 65536 = y at h2 HT b2
  have HX := Lib.hid b1
  have HY := Lib.hid b2
  clear b1 b2
  go_enter Try.func30, Try.ntmps30
  go_wp2_with fail
  refine (spair_own x _ HX.out).mono ?_
  rintro e w1 ⟨v1, rfl, ho1, hb1⟩
  have HO1 := Lib.hid ho1
  have HB1 := Lib.hid hb1
  clear ho1 hb1
  go_wp2_with fail
  refine (spair_any y _ HY.out).mono ?_
  rintro e w2 ⟨v2, rfl, ⟨A2, c2, rfl, hr2, hA2, hl2, hc2⟩, hb2⟩
  have HO2 := Lib.hid (own_below HO1.out hb2 (Nat.le_refl _))
  have HB2 := Lib.hid (HB1.out.trans (hb2.mono HB1.out.size))
  have HR2 := Lib.hid hr2
  have HA2 := Lib.hid hA2
  clear hr2 hA2 hb2 hl2 hc2 HO1
  go_wp2_with (at_builtin; refine wpList_append_rd rfl _ _ 24 rfl w.heap.size 5 i0 (.int .u8 0) 1 Try.underlying24 hi0 hz0 hz1 hz2 rfl _ _ _ rfl HO2.out A2 2 c2 (cells (two y)) rfl HA2.out rfl HR2.out (cells_one _) (by unfold maxLen; omega) (by omega) HB2.out.size ?_)
  intro v3 w3 hown3 hgrow3
  have HB3 : Hid (Below w.heap.size w w3) := HB2.out.grown hgrow3 HB2.out.size fun g hg => (HO2.out.lt g hg).1
  rw [← cells_append, ← HT.out] at hown3
  have HO3 := Lib.hid hown3
  clear hown3 hgrow3
  go_wp2
  go_ret
  exact ⟨_, rfl, fresh_own HO3.out (four_length n), HB3.out⟩
set_option maxRecDepth 100000 in
set_option maxHeartbeats 400000 in
theorem sopts_any (n : Nat) (w : World) (hn : n < 65536) : Calls Try.prog 27 #[.int .u16 n] w (FreshPost w (optL n)) := by
  obtain ⟨i0, hi0, hz0, hz1, hz2⟩ := info_parts info_u8
  have HX := Lib.hid hn
  by_cases h0 : n = 0
  · subst h0
    go_enter Try.func27, Try.ntmps27
    go_wp2
    go_ret
    exact ⟨_, rfl, ⟨none, 0, rfl, Rd.nil, fun _ => rfl, Nat.le_refl _, Nat.zero_le _⟩, Below.refl _ _⟩
  · have q0 := beqF (show ¬ (n : Int) = 0 by omega)
    have HT : Hid (optL n = [2, 4] ++ two n) := by show _ = _; unfold optL; rw [if_neg h0]
    have HO1 := Lib.hid (own_lit w (cells [2, 4]) 5 w.heap.size w.heap.size 2 rfl (Nat.le_refl _) (by unfold maxLen; omega) rfl)
    have HB1 := Lib.hid ((Below.refl w.heap.size w).alloc (Nat.le_refl _) (.cells (cells [2, 4]).toArray 5))
    clear hn h0
    go_enter Try.func27, Try.ntmps27
    go_wp2_with fail
    refine (spair_any n _ HX.out).mono ?_
    rintro e w2 ⟨v2, rfl, ⟨A2, c2, rfl, hr2, hA2, hl2, hc2⟩, hb2⟩
    have HO2 := Lib.hid (own_below HO1.out hb2 (Nat.le_refl _))
    have HB2 := Lib.hid (HB1.out.trans (hb2.mono HB1.out.size))
    have HR2 := Lib.hid hr2
    have HA2 := Lib.hid hA2
    clear hr2 hA2 hb2 hl2 hc2 HO1
    go_wp2_with (at_builtin; refine wpList_append_rd rfl _ _ 24 rfl w.heap.size 5 i0 (.int .u8 0) 1 Try.underlying24 hi0 hz0 hz1 hz2 rfl _ _ _ rfl HO2.out A2 2 c2 (cells (two n)) rfl HA2.out rfl HR2.out (cells_one _) (by unfold maxLen; omega) (by omega) HB2.out.size ?_)
    intro v3 w3 hown3 hgrow3
    have HB3 : Hid (Below w.heap.size w w3) := HB2.out.grown hgrow3 HB2.out.size fun g hg => (HO2.out.lt g hg).1
    rw [← cells_append, ← HT.out] at hown3
    have HO3 := Lib.hid hown3
    clear hown3 hgrow3
    go_wp2
    go_ret
    exact ⟨_, rfl, fresh_own HO3.out (by rw [HT.out]; rfl), HB3.out⟩
set_option maxRecDepth 100000 in
set_option maxHeartbeats 1000000 in
theorem spseudo_any (s0 s1 s2 s3 d0 d1 d2 d3 : UInt8) (A : Option Addr) (n c : Nat) (w : World) :
    Calls Try.prog 32 #[.agg #[.int .u8 (s0.toNat : Int), .int .u8 (s1.toNat : Int), .int .u8 (s2.toNat : Int), .int .u8 (s3.toNat : Int)], .agg #[.int .u8 (d0.toNat : Int), .int .u8 (d1.toNat : Int), .int .u8 (d2.toNat : Int), .int .u8 (d3.toNat : Int)], .slice A n c] w (FreshPost w (pseudoT [s0, s1, s2, s3] [d0, d1, d2, d3] n)) := by
  obtain ⟨w1, hw1⟩ : ∃ w1, (w.alloc (.cells #[.int .u8 (s0.toNat : Int), .int .u8 (s1.toNat : Int), .int .u8 (s2.toNat : Int), .int .u8 (s3.toNat : Int)] 28)).alloc (.cells #[.int .u8 (d0.toNat : Int), .int .u8 (d1.toNat : Int), .int .u8 (d2.toNat : Int), .int .u8 (d3.toNat : Int)] 28) = w1 := ⟨_, rfl⟩
  have HB1 : Hid (Below w.heap.size w w1) := by show Below _ _ _; rw [← hw1]; exact ((Below.refl _ _).alloc (Nat.le_refl _) _).alloc (by simp) _
  have hgs : w1.heap[w.heap.size]? = some (.cells #[.int .u8 (s0.toNat : Int), .int .u8 (s1.toNat : Int), .int .u8 (s2.toNat : Int), .int .u8 (s3.toNat : Int)] 28 (0, 0)) := by rw [← hw1]; exact old_alloc (heap_alloc_new w _) _
  have hgd : w1.heap[w.heap.size + 1]? = some (.cells #[.int .u8 (d0.toNat : Int), .int .u8 (d1.toNat : Int), .int .u8 (d2.toNat : Int), .int .u8 (d3.toNat : Int)] 28 (0, 0)) := by
    have := heap_alloc_new (w.alloc (.cells #[.int .u8 (s0.toNat : Int), .int .u8 (s1.toNat : Int), .int .u8 (s2.toNat : Int), .int .u8 (s3.toNat : Int)] 28)) (.cells #[.int .u8 (d0.toNat : Int), .int .u8 (d1.toNat : Int), .int .u8 (d2.toNat : Int), .int .u8 (d3.toNat : Int)] 28)
    rw [World.size_alloc] at this
    rw [← hw1]
    exact this
  have HGS := Lib.hid hgs
  have HGD := Lib.hid hgd
  have HW1 := Lib.hid hw1
  clear hgs hgd hw1
  have hps := pseudo_any s0 s1 s2 s3 d0 d1 d2 d3 6 n w1
  rw [show (((6 : UInt8).toNat : Nat) : Int) = 6 from rfl] at hps
  have HPS := Lib.hid hps
  clear hps
  go_enter Try.func32, Try.ntmps32
  go_wp2_with fail
  rw [HW1.out]
  go_wp2_with (first | refine wpList_load_row rfl 28 _ rfl w.heap.size rfl 28 #[.int .u8 (s0.toNat : Int), .int .u8 (s1.toNat : Int), .int .u8 (s2.toNat : Int), .int .u8 (s3.toNat : Int)] (0, 0) _ HGS.out Try.underlying28 rfl (by kernel_rfl) ?_ | refine wpList_load_row rfl 28 _ rfl (w.heap.size + 1) rfl 28 #[.int .u8 (d0.toNat : Int), .int .u8 (d1.toNat : Int), .int .u8 (d2.toNat : Int), .int .u8 (d3.toNat : Int)] (0, 0) _ HGD.out Try.underlying28 rfl (by kernel_rfl) ?_)
  refine HPS.out.mono ?_
  rintro e w2 ⟨A2, c2, rfl, ho2, hb2⟩
  have HF : Hid (Fresh w.heap.size (pseudoT [s0, s1, s2, s3] [d0, d1, d2, d3] n) (.slice A2 ([s0, s1, s2, s3] ++ [d0, d1, d2, d3] ++ [0, 6] ++ two n).length c2) w2) := (fresh_own ho2 rfl).wide HB1.out.size
  have HB2 := Lib.hid (HB1.out.trans (hb2.mono HB1.out.size))
  clear ho2 hb2
  go_wp2
  go_ret
  exact ⟨_, rfl, HF.out, HB2.out⟩
end Go.Proofs.Ytjgdmkmfnkaoaaa
