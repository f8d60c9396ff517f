/-
  ip4.Pseudo and the document's own: the same bytes. Every two hosts, every protocol, every number below 2^20.
-/
import Derived.Test.YtbmjjhflaocgiaaRefBuild
namespace Go.Proofs.Ytbmjjhflaocgiaa
open Go.RowKit

theorem refword_all (n : Nat) (w : World) (hn : n < 1048576) : Calls Try.prog 20 #[.int .i64 n] w fun e w' => e = .returned (txt (two n)) ∧ Below w.heap.size w w' := by
  have h1 := byte_hi n
  have h2 := byte_lo n
  have HT : Hid (two n = [UInt8.ofNat (n / 256), UInt8.ofNat n]) := rfl
  generalize UInt8.ofNat (n / 256) = a at h1 HT
  generalize UInt8.ofNat n = b at h2 HT
  have hr := run_two (w.alloc (.cells #[.int .u8 (a.toNat : Int), .int .u8 (b.toNat : Int)] 5)) w.heap.size a b (heap_alloc_new w _)
  go_enter Try.func20, Try.ntmps20
  go_wp2
  go_ret
  exact ⟨by rw [HT.out]; rfl, (Below.refl _ _).alloc (Nat.le_refl _) _⟩

set_option maxRecDepth 100000 in
set_option maxHeartbeats 2000000 in
theorem pseudo_any (s0 s1 s2 s3 d0 d1 d2 d3 proto : UInt8) (n : Nat) (w : World) :
    Calls Try.prog 14 #[.agg #[.int .u8 (s0.toNat : Int), .int .u8 (s1.toNat : Int), .int .u8 (s2.toNat : Int), .int .u8 (s3.toNat : Int)], .agg #[.int .u8 (d0.toNat : Int), .int .u8 (d1.toNat : Int), .int .u8 (d2.toNat : Int), .int .u8 (d3.toNat : Int)], .int .u8 (proto.toNat : Int), .int .i64 (n : Int)] w fun e w' => ∃ A c, e = .returned (.slice A ([s0, s1, s2, s3] ++ [d0, d1, d2, d3] ++ [0, proto] ++ two n).length c) ∧ OwnB w' w.heap.size (.slice A ([s0, s1, s2, s3] ++ [d0, d1, d2, d3] ++ [0, proto] ++ two n).length c) ([s0, s1, s2, s3] ++ [d0, d1, d2, d3] ++ [0, proto] ++ two n) ∧ Below w.heap.size w w' := by
  obtain ⟨w0, hw0⟩ : ∃ w0, w0 = (w.alloc (.cells #[.int .u8 (s0.toNat : Int), .int .u8 (s1.toNat : Int), .int .u8 (s2.toNat : Int), .int .u8 (s3.toNat : Int)] 24)).alloc (.cells #[.int .u8 (d0.toNat : Int), .int .u8 (d1.toNat : Int), .int .u8 (d2.toNat : Int), .int .u8 (d3.toNat : Int)] 24) := ⟨_, rfl⟩
  have HW := Lib.hid hw0
  have HB0 : Hid (Below w.heap.size w w0) := by show Below _ _ _; rw [hw0]; exact ((Below.refl _ _).alloc (Nat.le_refl _) _).alloc (by simp) _
  have RDS : Hid (∀ w', Gro (fun _ => False) w0 w' → Rd w' 0 w'.heap.size (some ⟨w.heap.size, 0, none⟩) (cells [s0, s1, s2, s3])) := fun w' hg => by
    have h := (rd_new w (cells [s0, s1, s2, s3]) 24 (0, 0)).alloc (by simp) (.cells #[.int .u8 (d0.toNat : Int), .int .u8 (d1.toNat : Int), .int .u8 (d2.toNat : Int), .int .u8 (d3.toNat : Int)] 24)
    have hz : w.heap.size + 2 = w0.heap.size := by rw [hw0]; simp
    have h2 : Rd w0 w.heap.size (w.heap.size + 1) (some ⟨w.heap.size, 0, none⟩) (cells [s0, s1, s2, s3]) := by rw [hw0]; exact h
    exact (h2.below hg.belowF (by omega)).wide (Nat.zero_le _) (by have := hg.size; omega)
  have RDD : Hid (∀ w', Gro (fun _ => False) w0 w' → Rd w' 0 w'.heap.size (some ⟨w.heap.size + 1, 0, none⟩) (cells [d0, d1, d2, d3])) := fun w' hg => by
    have h := rd_new (w.alloc (.cells #[.int .u8 (s0.toNat : Int), .int .u8 (s1.toNat : Int), .int .u8 (s2.toNat : Int), .int .u8 (s3.toNat : Int)] 24)) (cells [d0, d1, d2, d3]) 24 (0, 0)
    rw [World.size_alloc] at h
    have hz : w.heap.size + 2 = w0.heap.size := by rw [hw0]; simp
    have h2 : Rd w0 (w.heap.size + 1) (w.heap.size + 1 + 1) (some ⟨w.heap.size + 1, 0, none⟩) (cells [d0, d1, d2, d3]) := by rw [hw0]; exact h
    exact (h2.below hg.belowF (by omega)).wide (Nat.zero_le _) (by have := hg.size; omega)
  clear hw0
  go_enter Try.func14, Try.ntmps14
  go_wp2_with fail
  rw [← HW.out]
  apply wp_region_rely (fun _ => False) (RL [Is _, Is _, Is _, Fresh w0.heap.size [0, proto], Is _, Fresh w0.heap.size (two n), Lists [[s0, s1, s2, s3], [d0, d1, d2, d3], [0, proto], two n], Owned w0.heap.size ([s0, s1, s2, s3] ++ [d0, d1, d2, d3] ++ [0, proto] ++ two n), Owned w0.heap.size ([s0, s1, s2, s3] ++ [d0, d1, d2, d3] ++ [0, proto] ++ two n)]) [false, false, false, false, false, false, false, false, true, true, true, true, true, true, true, true, true]
  · kernel_rfl
  · kernel_rfl
  · kernel_rfl
  · refine ⟨?_, ?_, ?_, ?_, ?_, ?_, ?_, ?_, ?_, trivial⟩
    · intro ev w' hC hc hf hb hr K hK
      have e4 : ev (.tmp 4) = _ := hb 4 (by kernel_rfl)
      have HK := Lib.hid hK
      have HC := Lib.hid hC
      clear hb hr hK hC hf
      unfold Run
      simp [execOp, Upon, go_sem, *]
      exact HK.out _ _ (.inl (Below.refl _ _)) rfl
    · intro ev w' hC hc hf hb hr K hK
      have e5 : ev (.tmp 5) = _ := hb 5 (by kernel_rfl)
      have HK := Lib.hid hK
      have HC := Lib.hid hC
      clear hb hr hK hC hf
      unfold Run
      simp [execOp, Upon, go_sem, *]
      exact HK.out _ _ (.inl (Below.refl _ _)) rfl
    · intro ev w' hC hc hf hb hr K hK
      have e2 : ev (.tmp 2) = _ := hb 2 (by kernel_rfl)
      have HK := Lib.hid hK
      have HC := Lib.hid hC
      clear hb hr hK hC hf
      unfold Run
      simp [execOp, Upon, go_sem, *]
      exact HK.out _ _ (.inl (Below.refl _ _)) rfl
    · intro ev w' hC hc hf hb hr K hK
      have e11 := hr 2 _ rfl (by kernel_rfl)
      change ev (.tmp 11) = _ at e11
      have HK := Lib.hid hK
      have HC := Lib.hid hC
      clear hb hr hK hC hf
      unfold Run
      simp [execOp, Upon, go_sem, *]
      exact HK.out _ _ (.inl ((Below.refl _ _).alloc (Nat.le_refl _) _)) ⟨some ⟨w'.heap.size, 0, none⟩, 2, rfl, by rw [World.size_alloc]; exact (rd_new w' (cells [0, proto]) 5 (0, 0)).wide HC.out.size (Nat.le_refl _), (fun h => by cases h), Nat.le_refl _, (by unfold maxLen; simp)⟩
    · intro ev w' hC hc hf hb hr K hK
      have e3 : ev (.tmp 3) = _ := hb 3 (by kernel_rfl)
      have HK := Lib.hid hK
      have HC := Lib.hid hC
      clear hb hr hK hC hf
      unfold Run
      simp [execOp, Upon, go_sem, *]
      exact HK.out _ _ (.inl (Below.refl _ _)) rfl
    · intro ev w' hC hc hf hb hr K hK
      have e13 := hr 4 _ rfl (by kernel_rfl)
      change ev (.tmp 13) = _ at e13
      have HK := Lib.hid hK
      have HC := Lib.hid hC
      clear hb hr hK hC
      unfold Run
      simp [execOp, Upon, go_sem, *]
      refine (pair_any n _).mono ?_
      rintro e w2 ⟨v, rfl, hf, hb⟩
      exact ⟨v, rfl, HK.out _ _ (.inl hb) (hf.wide HC.out.size)⟩
    · intro ev w' hC hc hf hb hr K hK
      have e9 := hr 0 _ rfl (by kernel_rfl)
      have e10 := hr 1 _ rfl (by kernel_rfl)
      have e12 := hr 3 _ rfl (by kernel_rfl)
      have e14 := hr 5 _ rfl (by kernel_rfl)
      change ev (.tmp 9) = _ at e9
      change ev (.tmp 10) = _ at e10
      change (Fresh w0.heap.size [0, proto] : Pred) (ev (.tmp 12)) _ at e12
      change (Fresh w0.heap.size (two n) : Pred) (ev (.tmp 14)) _ at e14
      have HK := Lib.hid hK
      have HC := Lib.hid hC
      clear hb hr hK hC hf
      obtain ⟨A12, c12, q12, r12, z12, _⟩ := e12
      obtain ⟨A14, c14, q14, r14, z14, _⟩ := e14
      have hb1 := fresh_bits r12 z12 (fresh_bits r14 z14 (Bits.nil (w := w') (lo := 0) (hi := w'.heap.size)))
      have hb2 := Bits.cons (c := 4) (RDD.out w' HC.out) (fun h => by cases h) hb1
      have HBI := Lib.hid (Bits.cons (c := 4) (RDS.out w' HC.out) (fun h => by cases h) hb2)
      clear r12 z12 r14 z14 hb1 hb2
      simp only [two_length, List.length_cons, List.length_nil] at q12 q14
      unfold Run
      simp [execOp, Upon, go_sem, *]
      exact HK.out _ _ (.inl ((Below.refl _ _).alloc (Nat.le_refl _) _)) (lists_new HBI.out _)
    · intro ev w' hC hc hf hb hr K hK
      have e15 := hr 6 _ rfl (by kernel_rfl)
      change (Lists [[s0, s1, s2, s3], [d0, d1, d2, d3], [0, proto], two n] : Pred) (ev (.tmp 15)) _ at e15
      have HK := Lib.hid hK
      have HC := Lib.hid hC
      clear hb hr hK hC
      obtain ⟨g15, vs, q15, r15, hb15⟩ := e15
      simp only [List.length_cons, List.length_nil] at q15
      have HCC := Lib.hid (concat_any ⟨g15, 0, none⟩ 4 _ _ _ _ vs _ w' r15 hb15 (Nat.le_refl _) (Nat.le_refl _) (by simp [two_length]) (by simp))
      clear r15 hb15
      unfold Run
      simp [execOp, Upon, go_sem, *]
      refine HCC.out.mono ?_
      rintro e w2 ⟨A2, c2, rfl, ho, hb⟩
      exact ⟨_, rfl, HK.out _ _ (.inl hb) ⟨A2, c2, rfl, own_base ho HC.out.size⟩⟩
    · intro ev w' hC hc hf hb hr K hK
      have e16 := hr 7 _ rfl (by kernel_rfl)
      change (Owned w0.heap.size ([s0, s1, s2, s3] ++ [d0, d1, d2, d3] ++ [0, proto] ++ two n) : Pred) (ev (.tmp 16)) _ at e16
      have HK := Lib.hid hK
      have HC := Lib.hid hC
      clear hb hr hK hC hf
      have E16 := Lib.hid e16
      clear e16
      unfold Run
      simp [execOp, Upon, go_sem, *]
      exact HK.out _ _ (.inl (Below.refl _ _)) E16.out
  · exact rl_mono ⟨is_mono _, is_mono _, is_mono _, fresh_mono _ _, is_mono _, fresh_mono _ _, lists_mono _, owned_mono _ _, owned_mono _ _, trivial⟩
  intro us wr hG hH
  obtain ⟨-, -, -, -, -, -, -, -, h8, -⟩ := hH
  simp only [fillM]
  change (Owned w0.heap.size ([s0, s1, s2, s3] ++ [d0, d1, d2, d3] ++ [0, proto] ++ two n) : Pred) (us 8) wr at h8
  generalize us 9 = v9
  generalize us 10 = v10
  generalize us 11 = v11
  generalize us 12 = v12
  generalize us 13 = v13
  generalize us 14 = v14
  generalize us 15 = v15
  generalize us 16 = v16
  generalize us 8 = v8 at h8 ⊢
  obtain ⟨A8, c8, rfl, ho⟩ := h8
  have HO : Hid (OwnB wr w.heap.size _ _) := own_base ho HB0.out.size
  have HBF : Hid (Below w.heap.size w wr) := HB0.out.trans (hG.belowF.mono HB0.out.size)
  clear hG ho
  go_wp2
  go_ret
  exact ⟨A8, c8, rfl, HO.out, HBF.out⟩

set_option maxRecDepth 100000 in
set_option maxHeartbeats 2000000 in
theorem refpseudo_any (s0 s1 s2 s3 d0 d1 d2 d3 proto : UInt8) (n : Nat) (w : World) (hn : n < 1048576) :
    Calls Try.prog 15 #[.agg #[.int .u8 (s0.toNat : Int), .int .u8 (s1.toNat : Int), .int .u8 (s2.toNat : Int), .int .u8 (s3.toNat : Int)], .agg #[.int .u8 (d0.toNat : Int), .int .u8 (d1.toNat : Int), .int .u8 (d2.toNat : Int), .int .u8 (d3.toNat : Int)], .int .u8 (proto.toNat : Int), .int .i64 (n : Int)] w fun e w' => e = .returned (txt ([s0, s1, s2, s3] ++ [d0, d1, d2, d3] ++ [0, proto] ++ two n)) ∧ Below w.heap.size w w' := by
  obtain ⟨w0, hw0⟩ : ∃ w0, w0 = (w.alloc (.cells #[.int .u8 (s0.toNat : Int), .int .u8 (s1.toNat : Int), .int .u8 (s2.toNat : Int), .int .u8 (s3.toNat : Int)] 24)).alloc (.cells #[.int .u8 (d0.toNat : Int), .int .u8 (d1.toNat : Int), .int .u8 (d2.toNat : Int), .int .u8 (d3.toNat : Int)] 24) := ⟨_, rfl⟩
  have HW := Lib.hid hw0
  have HB0 : Hid (Below w.heap.size w w0) := by show Below _ _ _; rw [hw0]; exact ((Below.refl _ _).alloc (Nat.le_refl _) _).alloc (by simp) _
  have RDS : Hid (∀ w', Gro (fun _ => False) w0 w' → Rd w' 0 w'.heap.size (some ⟨w.heap.size, 0, none⟩) (cells [s0, s1, s2, s3])) := fun w' hg => by
    have h := (rd_new w (cells [s0, s1, s2, s3]) 24 (0, 0)).alloc (by simp) (.cells #[.int .u8 (d0.toNat : Int), .int .u8 (d1.toNat : Int), .int .u8 (d2.toNat : Int), .int .u8 (d3.toNat : Int)] 24)
    have hz : w.heap.size + 2 = w0.heap.size := by rw [hw0]; simp
    have h2 : Rd w0 w.heap.size (w.heap.size + 1) (some ⟨w.heap.size, 0, none⟩) (cells [s0, s1, s2, s3]) := by rw [hw0]; exact h
    exact (h2.below hg.belowF (by omega)).wide (Nat.zero_le _) (by have := hg.size; omega)
  have RDD : Hid (∀ w', Gro (fun _ => False) w0 w' → Rd w' 0 w'.heap.size (some ⟨w.heap.size + 1, 0, none⟩) (cells [d0, d1, d2, d3])) := fun w' hg => by
    have h := rd_new (w.alloc (.cells #[.int .u8 (s0.toNat : Int), .int .u8 (s1.toNat : Int), .int .u8 (s2.toNat : Int), .int .u8 (s3.toNat : Int)] 24)) (cells [d0, d1, d2, d3]) 24 (0, 0)
    rw [World.size_alloc] at h
    have hz : w.heap.size + 2 = w0.heap.size := by rw [hw0]; simp
    have h2 : Rd w0 (w.heap.size + 1) (w.heap.size + 1 + 1) (some ⟨w.heap.size + 1, 0, none⟩) (cells [d0, d1, d2, d3]) := by rw [hw0]; exact h
    exact (h2.below hg.belowF (by omega)).wide (Nat.zero_le _) (by have := hg.size; omega)
  clear hw0
  have FRT : Hid (Value.string ((⟨#[s0, s1, s2, s3]⟩ : ByteArray) ++ ⟨#[d0, d1, d2, d3]⟩ ++ ⟨#[0, proto]⟩ ++ ⟨(two n).toArray⟩) = txt ([s0, s1, s2, s3] ++ [d0, d1, d2, d3] ++ [0, proto] ++ two n)) := by
    show _ = _
    congr 1
  go_enter Try.func15, Try.ntmps15
  go_wp2_with fail
  rw [← HW.out]
  apply wp_region_rely (fun _ => False) (RL [Is (.agg #[.int .u8 (s0.toNat : Int), .int .u8 (s1.toNat : Int), .int .u8 (s2.toNat : Int), .int .u8 (s3.toNat : Int)]), Is (txt [s0, s1, s2, s3]), Is (.agg #[.int .u8 (d0.toNat : Int), .int .u8 (d1.toNat : Int), .int .u8 (d2.toNat : Int), .int .u8 (d3.toNat : Int)]), Is (txt [d0, d1, d2, d3]), Is _, Is _, Fresh w0.heap.size [0, proto], Is (txt [0, proto]), Is _, Is _, Is (txt (two n)), Is (txt ([s0, s1, s2, s3] ++ [d0, d1, d2, d3] ++ [0, proto] ++ two n)), Is (txt ([s0, s1, s2, s3] ++ [d0, d1, d2, d3] ++ [0, proto] ++ two n))]) [false, false, false, false, false, false, false, false, true, true, true, true, true, true, true, true, true, true, true, true, true]
  · kernel_rfl
  · kernel_rfl
  · kernel_rfl
  · refine ⟨?_, ?_, ?_, ?_, ?_, ?_, ?_, ?_, ?_, ?_, ?_, ?_, ?_, trivial⟩
    · intro ev w' hC hc hf hb hr K hK
      have e4 : ev (.tmp 4) = _ := hb 4 (by kernel_rfl)
      have HK := Lib.hid hK
      have HC := Lib.hid hC
      clear hb hr hK hC hf
      have hl := run_loadVar_at (P := Try.prog) w' ⟨w.heap.size, 0, none⟩ 24 (cells [s0, s1, s2, s3]) _ (loads_of (RDS.out w' HC.out)) Try.underlying24 rfl (by kernel_rfl)
      unfold Run
      rw [run_loadE 24 _ rfl e4 hl]
      exact HK.out _ _ (.inl (Below.refl _ _)) rfl
    · intro ev w' hC hc hf hb hr K hK
      have e9 := hr 0 _ rfl (by kernel_rfl)
      change ev (.tmp 9) = _ at e9
      have HK := Lib.hid hK
      have HC := Lib.hid hC
      clear hb hr hK hC
      unfold Run
      simp [execOp, Upon, go_sem, *]
      refine (host_lit s0 s1 s2 s3 _).mono ?_
      rintro e w2 ⟨rfl, hb⟩
      exact ⟨_, rfl, HK.out _ _ (.inl hb) rfl⟩
    · intro ev w' hC hc hf hb hr K hK
      have e5 : ev (.tmp 5) = _ := hb 5 (by kernel_rfl)
      have HK := Lib.hid hK
      have HC := Lib.hid hC
      clear hb hr hK hC hf
      have hl := run_loadVar_at (P := Try.prog) w' ⟨w.heap.size + 1, 0, none⟩ 24 (cells [d0, d1, d2, d3]) _ (loads_of (RDD.out w' HC.out)) Try.underlying24 rfl (by kernel_rfl)
      unfold Run
      rw [run_loadE 24 _ rfl e5 hl]
      exact HK.out _ _ (.inl (Below.refl _ _)) rfl
    · intro ev w' hC hc hf hb hr K hK
      have e11 := hr 2 _ rfl (by kernel_rfl)
      change ev (.tmp 11) = _ at e11
      have HK := Lib.hid hK
      have HC := Lib.hid hC
      clear hb hr hK hC
      unfold Run
      simp [execOp, Upon, go_sem, *]
      refine (host_lit d0 d1 d2 d3 _).mono ?_
      rintro e w2 ⟨rfl, hb⟩
      exact ⟨_, rfl, HK.out _ _ (.inl hb) rfl⟩
    · intro ev w' hC hc hf hb hr K hK
      have e10 := hr 1 _ rfl (by kernel_rfl)
      have e12 := hr 3 _ rfl (by kernel_rfl)
      change ev (.tmp 10) = _ at e10
      change ev (.tmp 12) = _ at e12
      have HK := Lib.hid hK
      have HC := Lib.hid hC
      clear hb hr hK hC hf
      unfold Run
      simp [execOp, Upon, go_sem, *]
      exact HK.out _ _ (.inl (Below.refl _ _)) rfl
    · intro ev w' hC hc hf hb hr K hK
      have e2 : ev (.tmp 2) = _ := hb 2 (by kernel_rfl)
      have HK := Lib.hid hK
      have HC := Lib.hid hC
      clear hb hr hK hC hf
      unfold Run
      simp [execOp, Upon, go_sem, *]
      exact HK.out _ _ (.inl (Below.refl _ _)) rfl
    · intro ev w' hC hc hf hb hr K hK
      have e14 := hr 5 _ rfl (by kernel_rfl)
      change ev (.tmp 14) = _ at e14
      have HK := Lib.hid hK
      have HC := Lib.hid hC
      clear hb hr hK hC hf
      unfold Run
      simp [execOp, Upon, go_sem, *]
      exact HK.out _ _ (.inl ((Below.refl _ _).alloc (Nat.le_refl _) _)) ⟨some ⟨w'.heap.size, 0, none⟩, 2, rfl, by rw [World.size_alloc]; exact (rd_new w' (cells [0, proto]) 5 (0, 0)).wide HC.out.size (Nat.le_refl _), (fun h => by cases h), Nat.le_refl _, (by unfold maxLen; simp)⟩
    · intro ev w' hC hc hf hb hr K hK
      have e15 := hr 6 _ rfl (by kernel_rfl)
      change (Fresh w0.heap.size [0, proto] : Pred) (ev (.tmp 15)) _ at e15
      have HK := Lib.hid hK
      have HC := Lib.hid hC
      clear hb hr hK hC hf
      obtain ⟨A15, c15, q15, r15, _⟩ := e15
      have kt := run_text (P := Try.prog) w' 25 9 5 c15 Try.underlying25 Try.underlying5 Try.underlying9 r15
      clear r15
      simp only [List.length_cons, List.length_nil, Nat.zero_add] at q15 kt
      unfold Run
      simp [execOp, Upon, go_sem, *]
      exact HK.out _ _ (.inl (Below.refl _ _)) rfl
    · intro ev w' hC hc hf hb hr K hK
      have e13 := hr 4 _ rfl (by kernel_rfl)
      have e16 := hr 7 _ rfl (by kernel_rfl)
      change ev (.tmp 13) = _ at e13
      change ev (.tmp 16) = _ at e16
      have HK := Lib.hid hK
      have HC := Lib.hid hC
      clear hb hr hK hC hf
      unfold Run
      simp [execOp, Upon, go_sem, *]
      exact HK.out _ _ (.inl (Below.refl _ _)) rfl
    · intro ev w' hC hc hf hb hr K hK
      have e3 : ev (.tmp 3) = _ := hb 3 (by kernel_rfl)
      have HK := Lib.hid hK
      have HC := Lib.hid hC
      clear hb hr hK hC hf
      unfold Run
      simp [execOp, Upon, go_sem, *]
      exact HK.out _ _ (.inl (Below.refl _ _)) rfl
    · intro ev w' hC hc hf hb hr K hK
      have e18 := hr 9 _ rfl (by kernel_rfl)
      change ev (.tmp 18) = _ at e18
      have HK := Lib.hid hK
      have HC := Lib.hid hC
      clear hb hr hK hC
      unfold Run
      simp [execOp, Upon, go_sem, *]
      refine (refword_all n _ hn).mono ?_
      rintro e w2 ⟨rfl, hb⟩
      exact ⟨_, rfl, HK.out _ _ (.inl hb) rfl⟩
    · intro ev w' hC hc hf hb hr K hK
      have e17 := hr 8 _ rfl (by kernel_rfl)
      have e19 := hr 10 _ rfl (by kernel_rfl)
      change ev (.tmp 17) = _ at e17
      change ev (.tmp 19) = _ at e19
      have HK := Lib.hid hK
      have HC := Lib.hid hC
      clear hb hr hK hC hf
      unfold Run
      simp [execOp, Upon, go_sem, *]
      exact HK.out _ _ (.inl (Below.refl _ _)) (by show _ = _; first | done | exact FRT.out)
    · intro ev w' hC hc hf hb hr K hK
      have e20 := hr 11 _ rfl (by kernel_rfl)
      change ev (.tmp 20) = _ at e20
      have HK := Lib.hid hK
      have HC := Lib.hid hC
      clear hb hr hK hC hf
      unfold Run
      simp [execOp, Upon, go_sem, *]
      exact HK.out _ _ (.inl (Below.refl _ _)) rfl
  · exact rl_mono ⟨is_mono _, is_mono _, is_mono _, is_mono _, is_mono _, is_mono _, fresh_mono _ _, is_mono _, is_mono _, is_mono _, is_mono _, is_mono _, is_mono _, trivial⟩
  intro us wr hG hH
  obtain ⟨-, -, -, -, -, -, -, -, -, -, -, -, h12, -⟩ := hH
  simp only [fillM]
  change us 8 = _ at h12
  rw [h12]
  clear h12
  generalize us 9 = v9
  generalize us 10 = v10
  generalize us 11 = v11
  generalize us 12 = v12
  generalize us 13 = v13
  generalize us 14 = v14
  generalize us 15 = v15
  generalize us 16 = v16
  generalize us 17 = v17
  generalize us 18 = v18
  generalize us 19 = v19
  generalize us 20 = v20
  have HBF : Hid (Below w.heap.size w wr) := HB0.out.trans (hG.belowF.mono HB0.out.size)
  clear hG
  go_wp2
  go_ret
  exact ⟨rfl, HBF.out⟩
end Go.Proofs.Ytbmjjhflaocgiaa
