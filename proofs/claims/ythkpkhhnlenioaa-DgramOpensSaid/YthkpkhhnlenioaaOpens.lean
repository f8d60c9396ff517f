/-
  The law DgramOpens: every byte, every two hosts, every slice of bytes. No condition.
-/
import Derived.Test.YthkpkhhnlenioaaRefO
import Derived.Test.YthkpkhhnlenioaaTurned
namespace Go.Proofs.Ythkpkhhnlenioaa
open Go.RowKit

theorem wpList_load_rowg {P : Program} {ops : Array Oper} {rest : List Oper} {o : Oper} {a : Act} {w : World} {Q : Exit → Act → World → Prop} (hg : Region.wanted o (yielded ops a.tmps) = true) (ty : TypeId) (x : Operand) (ho : o.op = .load ty x) (g : Nat) (hx : a.eval x = .pointer (some ⟨g, 0, none⟩))
    (t : TypeId) (cs : Array Value) (fr : Nat × Nat) (d : TypeDesc) (hgg : w.heap[g]? = some (.cells cs t fr)) (hu : P.underlying ty = some d) (hd : d.isRow = true) (hi : (P.info? ty).map (·.size) = some cs.size)
    (h : wpList P ops Q rest (a.put o.dst (.agg cs)) w) : wpList P ops Q (o :: rest) a w :=
  wpList_wanted hg fun _ hK => wp_load_row ty x ho g hx t cs fr d hgg hu (by cases d <;> first | rfl | cases hd) hi (hK _ _ h)

set_option maxRecDepth 100000 in
set_option maxHeartbeats 4000000 in
theorem opens_any (y s0 s1 s2 s3 d0 d1 d2 d3 : UInt8) (A2 : Option Addr) (l : List UInt8) (n2 c2 : Nat) (w : World) (hl2 : n2 = l.length) (hr2 : Rd w 0 w.heap.size A2 (cells l)) (hc2 : n2 ≤ c2) (hm2 : c2 ≤ 9223372036854775807) :
    Calls Try.prog 5 #[.int .u8 (y.toNat : Int), .agg #[.int .u8 (s0.toNat : Int), .int .u8 (s1.toNat : Int), .int .u8 (s2.toNat : Int), .int .u8 (s3.toNat : Int), .int .u8 (d0.toNat : Int), .int .u8 (d1.toNat : Int), .int .u8 (d2.toNat : Int), .int .u8 (d3.toNat : Int)], .slice A2 n2 c2] w fun e w' => e = .returned (.bool true) ∧ Below w.heap.size w w' := by
  obtain ⟨yi, hyi⟩ : ∃ yi : Int, (y.toNat : Int) = yi := ⟨_, rfl⟩
  rw [hyi]
  obtain ⟨w1, hw1⟩ : ∃ w1, w.alloc (.cells #[.int .u8 (s0.toNat : Int), .int .u8 (s1.toNat : Int), .int .u8 (s2.toNat : Int), .int .u8 (s3.toNat : Int), .int .u8 (d0.toNat : Int), .int .u8 (d1.toNat : Int), .int .u8 (d2.toNat : Int), .int .u8 (d3.toNat : Int)] 29) = w1 := ⟨_, rfl⟩
  have HB1 : Hid (Below w.heap.size w w1) := by show Below _ _ _; rw [← hw1]; exact (Below.refl _ _).alloc (Nat.le_refl _) _
  have HE1 : Hid (w1.heap[w.heap.size]? = some (.cells #[.int .u8 (s0.toNat : Int), .int .u8 (s1.toNat : Int), .int .u8 (s2.toNat : Int), .int .u8 (s3.toNat : Int), .int .u8 (d0.toNat : Int), .int .u8 (d1.toNat : Int), .int .u8 (d2.toNat : Int), .int .u8 (d3.toNat : Int)] 29 (0, 0))) := by show _ = _; rw [← hw1]; exact heap_alloc_new w _
  have HL2 := Lib.hid hl2
  have HR2 := Lib.hid hr2
  have HYI := Lib.hid hyi
  clear hl2 hr2 hyi
  go_enter Try.func5, Try.ntmps5
  go_wp2_with fail
  refine (lives_any _).mono ?_
  rintro e w2 ⟨rfl, hb2⟩
  have HB2 := Lib.hid (HB1.out.trans (hb2.mono HB1.out.size))
  have HE2 : Hid (w2.heap[w.heap.size]? = some (.cells #[.int .u8 (s0.toNat : Int), .int .u8 (s1.toNat : Int), .int .u8 (s2.toNat : Int), .int .u8 (s3.toNat : Int), .int .u8 (d0.toNat : Int), .int .u8 (d1.toNat : Int), .int .u8 (d2.toNat : Int), .int .u8 (d3.toNat : Int)] 29 (0, 0))) := (hb2.block _ (row_lt HE1.out)).trans HE1.out
  clear hb2
  by_cases hbig : 1200 < n2
  · go_wp2_with fail
    refine (lives_any _).mono ?_
    rintro e w3 ⟨rfl, hb3⟩
    have HB3 := Lib.hid (HB2.out.trans (hb3.mono HB2.out.size))
    clear hb3
    go_wp2
    go_ret
    exact ⟨rfl, HB3.out⟩
  have hbig' : n2 ≤ 1200 := by omega
  by_cases hlong : 1000 < n2
  · have hz1 : (1000 : Int) < (n2 : Int) := by omega
    go_wp2_with (first | refine wpList_load_at rfl 27 _ rfl ⟨w.heap.size, 0, none⟩ rfl [.int .u8 (s0.toNat : Int), .int .u8 (s1.toNat : Int), .int .u8 (s2.toNat : Int), .int .u8 (s3.toNat : Int)] _ (ends_at HE2.out).1 Try.underlying27 rfl (by kernel_rfl) ?_ | refine wpList_load_at rfl 27 _ rfl ⟨w.heap.size, 4, none⟩ rfl [.int .u8 (d0.toNat : Int), .int .u8 (d1.toNat : Int), .int .u8 (d2.toNat : Int), .int .u8 (d3.toNat : Int)] _ (ends_at HE2.out).2 Try.underlying27 rfl (by kernel_rfl) ?_)
    refine (open_long yi A2 n2 c2 s0 s1 s2 s3 d0 d1 d2 d3 w2 (by omega) hlong).mono ?_
    rintro e w3 ⟨rfl, hb3⟩
    have HB3 := Lib.hid (HB2.out.trans (hb3.mono HB2.out.size))
    clear hb3
    go_wp2
    go_ret
    exact ⟨rfl, HB3.out⟩
  have hz1 : (n2 : Int) ≤ 1000 := by omega
  have HR3 := Lib.hid (HR2.out.below HB2.out (Nat.le_refl _))
  have HM2 : Hid (c2 ≤ maxLen) := by show _ ≤ _; unfold maxLen; omega
  by_cases h1 : yi = 1
  · subst h1
    go_wp2_with (first | refine wpList_load_at rfl 27 _ rfl ⟨w.heap.size, 0, none⟩ rfl [.int .u8 (s0.toNat : Int), .int .u8 (s1.toNat : Int), .int .u8 (s2.toNat : Int), .int .u8 (s3.toNat : Int)] _ (ends_at HE2.out).1 Try.underlying27 rfl (by kernel_rfl) ?_ | refine wpList_load_at rfl 27 _ rfl ⟨w.heap.size, 4, none⟩ rfl [.int .u8 (d0.toNat : Int), .int .u8 (d1.toNat : Int), .int .u8 (d2.toNat : Int), .int .u8 (d3.toNat : Int)] _ (ends_at HE2.out).2 Try.underlying27 rfl (by kernel_rfl) ?_)
    refine (open_ec A2 l n2 c2 0 w.heap.size s0 s1 s2 s3 d0 d1 d2 d3 w2 HR3.out HL2.out.symm hc2 HM2.out HB2.out.size (by omega)).mono ?_
    obtain ⟨x, z, hxz⟩ : ∃ x z, ecOpen l = (x, z) := ⟨_, _, rfl⟩
    rw [hxz]
    rintro e w3 ⟨m, rfl, hb3, hm0, hmn⟩
    simp only at hm0 hmn ⊢
    have HXZ := Lib.hid hxz
    have HB3 := Lib.hid (HB2.out.trans (hb3.mono HB2.out.size))
    have HE3 : Hid (w3.heap[w.heap.size]? = some (.cells #[.int .u8 (s0.toNat : Int), .int .u8 (s1.toNat : Int), .int .u8 (s2.toNat : Int), .int .u8 (s3.toNat : Int), .int .u8 (d0.toNat : Int), .int .u8 (d1.toNat : Int), .int .u8 (d2.toNat : Int), .int .u8 (d3.toNat : Int)] 29 (0, 0))) := (hb3.block _ (row_lt HE2.out)).trans HE2.out
    have HM0 := Lib.hid hm0
    have HMN := Lib.hid hmn
    have HW2 : Hid (w.heap.size ≤ w2.heap.size) := HB2.out.size
    have ht := run_text (P := Try.prog) w3 23 9 5 c2 Try.underlying23 Try.underlying5 Try.underlying9 (HR2.out.below HB3.out (Nat.le_refl _))
    rw [← HL2.out] at ht
    clear hxz hb3 hm0 hmn
    go_wp2_with (first | refine wpList_load_at rfl 27 _ rfl ⟨w.heap.size, 0, none⟩ rfl [.int .u8 (s0.toNat : Int), .int .u8 (s1.toNat : Int), .int .u8 (s2.toNat : Int), .int .u8 (s3.toNat : Int)] _ (ends_at HE3.out).1 Try.underlying27 rfl (by kernel_rfl) ?_ | refine wpList_load_at rfl 27 _ rfl ⟨w.heap.size, 4, none⟩ rfl [.int .u8 (d0.toNat : Int), .int .u8 (d1.toNat : Int), .int .u8 (d2.toNat : Int), .int .u8 (d3.toNat : Int)] _ (ends_at HE3.out).2 Try.underlying27 rfl (by kernel_rfl) ?_)
    refine (refoec_any l w3 (by rw [← HL2.out]; omega)).mono ?_
    rw [HXZ.out]
    rintro e w4 ⟨cs2, rfl, hcs, hb4⟩
    have HB4 := Lib.hid (HB3.out.trans (hb4.mono HB3.out.size))
    obtain ⟨A5, c5, rfl, hcr⟩ := hcs
    obtain ⟨n5, hn5⟩ : ∃ n5, x.data.length = n5 := ⟨_, rfl⟩
    have hcs2 : EcC w4 w3.heap.size w4.heap.size _ x := ⟨A5, c5, rfl, hcr⟩
    rw [hn5] at hcs2 ⊢
    have HCS := Lib.hid hcs2
    have HW3 : Hid (w3.heap.size ≤ w4.heap.size) := hb4.size
    simp only
    by_cases hz0 : z = 0
    · subst hz0
      obtain ⟨ds, rfl, hds⟩ := HM0.out rfl
      have HDS := Lib.hid ((hds.below hb4 (Nat.le_refl _)).wide (Nat.le_refl _) hb4.size)
      obtain ⟨w5, hw5⟩ : ∃ w5, w4.alloc (.cells #[.bool x.reply, .int .u16 (x.id : Int), .int .u16 (x.seq : Int), .slice A5 n5 c5] 25) = w5 := ⟨_, rfl⟩
      have HB5 : Hid (Below w.heap.size w w5) := by show Below _ _ _; rw [← hw5]; exact HB4.out.alloc HB4.out.size _
      have HN5 : Hid (w5.heap[w4.heap.size]? = some (.cells #[.bool x.reply, .int .u16 (x.id : Int), .int .u16 (x.seq : Int), .slice A5 n5 c5] 25 (0, 0))) := by show _ = _; rw [← hw5]; exact heap_alloc_new w4 _
      have HB45 : Hid (Below w4.heap.size w4 w5) := by show Below _ _ _; rw [← hw5]; exact (Below.refl _ _).alloc (Nat.le_refl _) _
      clear hb4 hcr hn5 hcs2 hds ht
      unfold ecM
      go_wp2_with (refine wpList_load_rowg (by rfl) 25 _ rfl w4.heap.size rfl 25 #[.bool x.reply, .int .u16 (x.id : Int), .int .u16 (x.seq : Int), .slice A5 n5 c5] (0, 0) _ HN5.out Try.underlying25 rfl (by kernel_rfl) ?_)
      refine (same_ec ds _ x x w2.heap.size w4.heap.size w3.heap.size w4.heap.size w5 (HDS.out.below HB45.out (Nat.le_refl _)) (HCS.out.below HB45.out (Nat.le_refl _)) HB45.out.size HB45.out.size).mono ?_
      rw [ecEq_self]
      rintro e w7 ⟨rfl, hb7⟩
      have HB7 := Lib.hid (HB5.out.trans (hb7.mono HB5.out.size))
      clear hb7
      go_wp2
      go_ret
      exact ⟨rfl, HB7.out⟩
    · have hmm := HMN.out hz0
      subst hmm
      have qz1 : (z != 0) = true := bneT hz0
      have qz2 : (z == 0) = false := beqF hz0
      obtain ⟨w5, hw5⟩ : ∃ w5, w4.alloc (.cells #[.bool x.reply, .int .u16 (x.id : Int), .int .u16 (x.seq : Int), .slice A5 n5 c5] 25) = w5 := ⟨_, rfl⟩
      have HB5 : Hid (Below w.heap.size w w5) := by show Below _ _ _; rw [← hw5]; exact HB4.out.alloc HB4.out.size _
      clear hb4 hcr hn5 hcs2 ht hz0
      go_wp2
      go_ret
      exact ⟨rfl, HB5.out⟩
  by_cases h17 : yi = 17
  · subst h17
    go_wp2_with (first | refine wpList_load_at rfl 27 _ rfl ⟨w.heap.size, 0, none⟩ rfl [.int .u8 (s0.toNat : Int), .int .u8 (s1.toNat : Int), .int .u8 (s2.toNat : Int), .int .u8 (s3.toNat : Int)] _ (ends_at HE2.out).1 Try.underlying27 rfl (by kernel_rfl) ?_ | refine wpList_load_at rfl 27 _ rfl ⟨w.heap.size, 4, none⟩ rfl [.int .u8 (d0.toNat : Int), .int .u8 (d1.toNat : Int), .int .u8 (d2.toNat : Int), .int .u8 (d3.toNat : Int)] _ (ends_at HE2.out).2 Try.underlying27 rfl (by kernel_rfl) ?_)
    refine (open_dg A2 l n2 c2 0 w.heap.size s0 s1 s2 s3 d0 d1 d2 d3 w2 HR3.out HL2.out.symm hc2 HM2.out HB2.out.size (by omega)).mono ?_
    obtain ⟨x, z, hxz⟩ : ∃ x z, dgOpen [s0, s1, s2, s3] [d0, d1, d2, d3] l = (x, z) := ⟨_, _, rfl⟩
    rw [hxz]
    rintro e w3 ⟨m, rfl, hb3, hm0, hmn⟩
    simp only at hm0 hmn ⊢
    have HXZ := Lib.hid hxz
    have HB3 := Lib.hid (HB2.out.trans (hb3.mono HB2.out.size))
    have HE3 : Hid (w3.heap[w.heap.size]? = some (.cells #[.int .u8 (s0.toNat : Int), .int .u8 (s1.toNat : Int), .int .u8 (s2.toNat : Int), .int .u8 (s3.toNat : Int), .int .u8 (d0.toNat : Int), .int .u8 (d1.toNat : Int), .int .u8 (d2.toNat : Int), .int .u8 (d3.toNat : Int)] 29 (0, 0))) := (hb3.block _ (row_lt HE2.out)).trans HE2.out
    have HM0 := Lib.hid hm0
    have HMN := Lib.hid hmn
    have HW2 : Hid (w.heap.size ≤ w2.heap.size) := HB2.out.size
    have ht := run_text (P := Try.prog) w3 23 9 5 c2 Try.underlying23 Try.underlying5 Try.underlying9 (HR2.out.below HB3.out (Nat.le_refl _))
    rw [← HL2.out] at ht
    clear hxz hb3 hm0 hmn
    go_wp2_with (first | refine wpList_load_at rfl 27 _ rfl ⟨w.heap.size, 0, none⟩ rfl [.int .u8 (s0.toNat : Int), .int .u8 (s1.toNat : Int), .int .u8 (s2.toNat : Int), .int .u8 (s3.toNat : Int)] _ (ends_at HE3.out).1 Try.underlying27 rfl (by kernel_rfl) ?_ | refine wpList_load_at rfl 27 _ rfl ⟨w.heap.size, 4, none⟩ rfl [.int .u8 (d0.toNat : Int), .int .u8 (d1.toNat : Int), .int .u8 (d2.toNat : Int), .int .u8 (d3.toNat : Int)] _ (ends_at HE3.out).2 Try.underlying27 rfl (by kernel_rfl) ?_)
    refine (refodg_any l s0 s1 s2 s3 d0 d1 d2 d3 w3 (by rw [← HL2.out]; omega)).mono ?_
    rw [HXZ.out]
    rintro e w4 ⟨cs2, rfl, hcs, hb4⟩
    have HB4 := Lib.hid (HB3.out.trans (hb4.mono HB3.out.size))
    obtain ⟨A5, c5, rfl, hcr⟩ := hcs
    obtain ⟨n5, hn5⟩ : ∃ n5, x.data.length = n5 := ⟨_, rfl⟩
    have hcs2 : DgC w4 w3.heap.size w4.heap.size _ x := ⟨A5, c5, rfl, hcr⟩
    rw [hn5] at hcs2 ⊢
    have HCS := Lib.hid hcs2
    have HW3 : Hid (w3.heap.size ≤ w4.heap.size) := hb4.size
    simp only
    by_cases hz0 : z = 0
    · subst hz0
      obtain ⟨ds, rfl, hds⟩ := HM0.out rfl
      have HDS := Lib.hid ((hds.below hb4 (Nat.le_refl _)).wide (Nat.le_refl _) hb4.size)
      obtain ⟨w5, hw5⟩ : ∃ w5, w4.alloc (.cells #[.int .u16 (x.src : Int), .int .u16 (x.dst : Int), .slice A5 n5 c5] 43) = w5 := ⟨_, rfl⟩
      have HB5 : Hid (Below w.heap.size w w5) := by show Below _ _ _; rw [← hw5]; exact HB4.out.alloc HB4.out.size _
      have HN5 : Hid (w5.heap[w4.heap.size]? = some (.cells #[.int .u16 (x.src : Int), .int .u16 (x.dst : Int), .slice A5 n5 c5] 43 (0, 0))) := by show _ = _; rw [← hw5]; exact heap_alloc_new w4 _
      have HB45 : Hid (Below w4.heap.size w4 w5) := by show Below _ _ _; rw [← hw5]; exact (Below.refl _ _).alloc (Nat.le_refl _) _
      clear hb4 hcr hn5 hcs2 hds ht
      unfold dgM
      go_wp2_with (refine wpList_load_rowg (by rfl) 43 _ rfl w4.heap.size rfl 43 #[.int .u16 (x.src : Int), .int .u16 (x.dst : Int), .slice A5 n5 c5] (0, 0) _ HN5.out Try.underlying43 rfl (by kernel_rfl) ?_)
      refine (same_dg ds _ x x w2.heap.size w4.heap.size w3.heap.size w4.heap.size w5 (HDS.out.below HB45.out (Nat.le_refl _)) (HCS.out.below HB45.out (Nat.le_refl _)) HB45.out.size HB45.out.size).mono ?_
      rw [dgEq_self]
      rintro e w7 ⟨rfl, hb7⟩
      have HB7 := Lib.hid (HB5.out.trans (hb7.mono HB5.out.size))
      clear hb7
      go_wp2
      go_ret
      exact ⟨rfl, HB7.out⟩
    · have hmm := HMN.out hz0
      subst hmm
      have qz1 : (z != 0) = true := bneT hz0
      have qz2 : (z == 0) = false := beqF hz0
      obtain ⟨w5, hw5⟩ : ∃ w5, w4.alloc (.cells #[.int .u16 (x.src : Int), .int .u16 (x.dst : Int), .slice A5 n5 c5] 43) = w5 := ⟨_, rfl⟩
      have HB5 : Hid (Below w.heap.size w w5) := by show Below _ _ _; rw [← hw5]; exact HB4.out.alloc HB4.out.size _
      clear hb4 hcr hn5 hcs2 ht hz0
      go_wp2
      go_ret
      exact ⟨rfl, HB5.out⟩
  have q1 : (yi == 1) = false := beqF h1
  have q17 : (yi == 17) = false := beqF h17
  have HO := open_none y A2 n2 c2 s0 s1 s2 s3 d0 d1 d2 d3 w2 (by omega) (by rintro rfl; exact h1 HYI.out.symm) (by rintro rfl; exact h17 HYI.out.symm)
  rw [HYI.out] at HO
  have HOH := Lib.hid HO
  clear HO
  go_wp2_with (first | refine wpList_load_at rfl 27 _ rfl ⟨w.heap.size, 0, none⟩ rfl [.int .u8 (s0.toNat : Int), .int .u8 (s1.toNat : Int), .int .u8 (s2.toNat : Int), .int .u8 (s3.toNat : Int)] _ (ends_at HE2.out).1 Try.underlying27 rfl (by kernel_rfl) ?_ | refine wpList_load_at rfl 27 _ rfl ⟨w.heap.size, 4, none⟩ rfl [.int .u8 (d0.toNat : Int), .int .u8 (d1.toNat : Int), .int .u8 (d2.toNat : Int), .int .u8 (d3.toNat : Int)] _ (ends_at HE2.out).2 Try.underlying27 rfl (by kernel_rfl) ?_)
  refine HOH.out.mono ?_
  rintro e w3 ⟨rfl, hb3⟩
  have HB3 := Lib.hid (HB2.out.trans (hb3.mono HB2.out.size))
  clear hb3
  go_wp2
  go_ret
  exact ⟨rfl, HB3.out⟩
end Go.Proofs.Ythkpkhhnlenioaa
