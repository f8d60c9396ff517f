/-
  The document's own answers for which texts are addresses (caravelref04.Read, ReadIP): they are the plain functions of the contracts. Every text of at most a million bytes, in every world in which the table lies.
-/
import Derived.Test.YtbahkilfcfbolaaDoorRefRead
import Derived.Deep.RegionWith
namespace Go.Proofs.YtbahkilfcfbolaaDoor
open Go.RowKit

theorem refaddr_lit (c0 c1 c2 c3 : UInt8) (p : Nat) (hp : p < 65536) (w : World) (hR : Ready w) :
    Calls Tryd.prog 15 #[.agg #[.int .u8 (c0.toNat : Int), .int .u8 (c1.toNat : Int), .int .u8 (c2.toNat : Int), .int .u8 (c3.toNat : Int), .int .u16 p]] w fun e w' => e = .returned (txt (adT [c0, c1, c2, c3] p)) ∧ Below w.heap.size w w' :=
  refaddr_any [c0, c1, c2, c3] p w rfl hp hR
theorem port_mod (n : Nat) : IntKind.u16.wrap (n : Int) = ((n % 65536 : Nat) : Int) := by
  rw [IntKind.wrap_u16]
  omega
theorem numsF_len (a : List UInt8) (p : Nat) (ha : a.length = 4) (hp : p < 65536) : (numsF (adT a p)).1.length = 4 := by
  obtain ⟨x0, x1, x2, x3, rfl⟩ := (match a, ha with | [x0, x1, x2, x3], _ => ⟨x0, x1, x2, x3, rfl⟩ : ∃ x0 x1 x2 x3 : UInt8, a = [x0, x1, x2, x3])
  rw [numsF_ad _ _ _ _ _ hp]
  rfl

set_option maxRecDepth 100000 in
set_option maxHeartbeats 1000000 in
theorem refread_len (l : List UInt8) (w : World) (hl : l.length ≤ 1000000) (hn : (numsF l).1.length ≠ 4) :
    Calls Tryd.prog 11 #[txt l] w fun e w' => e = .returned (.tuple #[adV (adOf l).1, .int .i64 (adOf l).2]) ∧ Below w.heap.size w w' := by
  have HP : Hid (adOf l = (([0, 0, 0, 0], 0), 7)) := adOf_miss l fun a p ha hp e => hn (by rw [← e]; exact numsF_len a p ha hp)
  go_enter Tryd.func11, Tryd.ntmps11
  go_wp2_with fail
  have HB0 := Lib.hid ((Below.refl w.heap.size w).alloc (Nat.le_refl _) (Obj.cells #[.int .u8 0, .int .u8 0, .int .u8 0, .int .u8 0, .int .u16 0] 26))
  refine (numbers_any l _ hl).mono ?_
  rintro e w1 ⟨v, rfl, hown, hb⟩
  obtain ⟨A, c, rfl⟩ := own_form hown
  have hz : w1.heap[w.heap.size]? = some (.cells #[.int .u8 0, .int .u8 0, .int .u8 0, .int .u8 0, .int .u16 0] 26 (0, 0)) := by
    rw [World.size_alloc] at hb
    exact (hb.block w.heap.size (by omega)).trans (heap_alloc_new w _)
  obtain ⟨hc0, hc1, hc2, hc3, hc4⟩ := five_cells hz
  have hf := fun j => frozen_of_row w1 _ j _ _ hz
  have HZ := Lib.hid hz
  have HB := Lib.hid (HB0.out.trans (hb.mono HB0.out.size))
  generalize (numsF l).1.length = q at *
  have hq : (((q : Int) + 1) != 5) = true := by
    rw [bne_iff_ne]
    omega
  have hq2 : ((q : Int) + 1 == 5) = false := by
    rw [beq_eq_false_iff_ne]
    omega
  have hq3 : ((q : Int) == 4) = false := by
    rw [beq_eq_false_iff_ne]
    omega
  clear hb hz hown
  go_wp2
  (try simp only [Exit.inBlock, Exit.then])
  refine ret_row (g := w.heap.size) (cs := #[.int .u8 0, .int .u8 0, .int .u8 0, .int .u8 0, .int .u16 0]) rfl rfl (load_addr (set5 HZ.out _ _ _ _ _) rfl) rfl ?_
  rw [HP.out]
  exact ⟨rfl, below_set5 HB.out (Nat.le_refl _) _ _ _ _ _⟩

set_option maxRecDepth 100000 in
set_option maxHeartbeats 2000000 in
theorem refread_five (l : List UInt8) (n0 n1 n2 n3 n4 : Nat) (w : World) (hl : l.length ≤ 1000000) (hn : numsF l = ([n0, n1, n2, n3], n4)) (hR : Ready w) :
    Calls Tryd.prog 11 #[txt l] w fun e w' => e = .returned (.tuple #[adV (adOf l).1, .int .i64 (adOf l).2]) ∧ Below w.heap.size w w' := by
  have HEQ : Hid (adT [UInt8.ofNat n0, UInt8.ofNat n1, UInt8.ofNat n2, UInt8.ofNat n3] (n4 % 65536) = l → adOf l = (([UInt8.ofNat n0, UInt8.ofNat n1, UInt8.ofNat n2, UInt8.ofNat n3], n4 % 65536), 0)) := fun e => by
    rw [← e]
    exact adOf_hit _ _ rfl (Nat.mod_lt _ (by decide))
  have HNE : Hid (adT [UInt8.ofNat n0, UInt8.ofNat n1, UInt8.ofNat n2, UInt8.ofNat n3] (n4 % 65536) ≠ l → adOf l = (([0, 0, 0, 0], 0), 7)) := fun hne => adOf_miss l fun b q hb hq e => by
    obtain ⟨b0, b1, b2, b3, rfl⟩ := (match b, hb with | [x0, x1, x2, x3], _ => ⟨x0, x1, x2, x3, rfl⟩ : ∃ x0 x1 x2 x3 : UInt8, b = [x0, x1, x2, x3])
    have h := numsF_ad b0 b1 b2 b3 q hq
    rw [e, hn] at h
    simp only [Prod.mk.injEq, List.cons.injEq, and_true] at h
    obtain ⟨⟨rfl, rfl, rfl, rfl⟩, rfl⟩ := h
    refine hne ?_
    rw [UInt8.ofNat_toNat, UInt8.ofNat_toNat, UInt8.ofNat_toNat, UInt8.ofNat_toNat, Nat.mod_eq_of_lt hq]
    exact e
  have HRA := Lib.hid (refaddr_lit (UInt8.ofNat n0) (UInt8.ofNat n1) (UInt8.ofNat n2) (UInt8.ofNat n3) (n4 % 65536) (Nat.mod_lt _ (by decide)))
  go_enter Tryd.func11, Tryd.ntmps11
  go_wp2_with fail
  have HB0 := Lib.hid ((Below.refl w.heap.size w).alloc (Nat.le_refl _) (Obj.cells #[.int .u8 0, .int .u8 0, .int .u8 0, .int .u8 0, .int .u16 0] 26))
  refine (numbers_any l _ hl).mono ?_
  rintro e w1 ⟨v, rfl, hown, hb⟩
  rw [hn] at hown
  obtain ⟨A, c, rfl⟩ := own_form hown
  obtain ⟨g, rfl, _, _, hd0⟩ := own_at hown (j := 0) (u := .int .i64 n0) rfl
  obtain ⟨_, e1, _, _, hd1⟩ := own_at hown (j := 1) (u := .int .i64 n1) rfl
  cases e1
  obtain ⟨_, e1, _, _, hd2⟩ := own_at hown (j := 2) (u := .int .i64 n2) rfl
  cases e1
  obtain ⟨_, e1, _, _, hd3⟩ := own_at hown (j := 3) (u := .int .i64 n3) rfl
  cases e1
  obtain ⟨_, e1, _, _, hd4⟩ := own_at hown (j := 4) (u := .int .i64 n4) rfl
  cases e1
  rw [show ([n0, n1, n2, n3] : List Nat).length + 1 = 5 from rfl]
  have hz : w1.heap[w.heap.size]? = some (.cells #[.int .u8 0, .int .u8 0, .int .u8 0, .int .u8 0, .int .u16 0] 26 (0, 0)) := by
    rw [World.size_alloc] at hb
    exact (hb.block w.heap.size (by omega)).trans (heap_alloc_new w _)
  have HZ := Lib.hid hz
  have HB := Lib.hid (HB0.out.trans (hb.mono HB0.out.size))
  clear hb hz hown
  go_upto_region 4 with (fail)
  have k0 : w1.drew.cell? ⟨g, 0, none⟩ = some (.int .i64 n0) := hd0
  have k1 : w1.drew.cell? ⟨g, 1, none⟩ = some (.int .i64 n1) := hd1
  have k2 : w1.drew.cell? ⟨g, 2, none⟩ = some (.int .i64 n2) := hd2
  have k3 : w1.drew.cell? ⟨g, 3, none⟩ = some (.int .i64 n3) := hd3
  have k4 : w1.drew.cell? ⟨g, 4, none⟩ = some (.int .i64 n4) := hd4
  go_region
  all_goals
    clear k0 k1 k2 k3 k4 hd0 hd1 hd2 hd3 hd4
    simp only [Exit.then]
    rw [byte_mod n0, byte_mod n1, byte_mod n2, byte_mod n3, port_mod n4]
    generalize UInt8.ofNat n0 = c0 at *
    generalize UInt8.ofNat n1 = c1 at *
    generalize UInt8.ofNat n2 = c2 at *
    generalize UInt8.ofNat n3 = c3 at *
    generalize n4 % 65536 = p at *
    have hw5 : w1.drew.heap.size = w1.heap.size := rfl
    have hB2 : Below w.heap.size w (w1.alloc (Obj.cells #[.int .u8 (c0.toNat : Int), .int .u8 (c1.toNat : Int), .int .u8 (c2.toNat : Int), .int .u8 (c3.toNat : Int), .int .u16 p] 26)).drew := (HB.out.alloc HB.out.size _).drew
    have HB2 := Lib.hid hB2
    clear hB2
    go_wp2_with fail
    refine (HRA.out _ (hR.below HB2.out (Nat.le_refl _))).mono ?_
    rintro e w2 ⟨rfl, hb2⟩
    have hz2 : w2.heap[w.heap.size]? = some (.cells #[.int .u8 0, .int .u8 0, .int .u8 0, .int .u8 0, .int .u16 0] 26 (0, 0)) := by
      have h1 := old_alloc HZ.out (Obj.cells #[.int .u8 (c0.toNat : Int), .int .u8 (c1.toNat : Int), .int .u8 (c2.toNat : Int), .int .u8 (c3.toNat : Int), .int .u16 p] 26)
      exact (hb2.block _ (row_lt h1)).trans h1
    have hy2 : w2.heap[w1.heap.size]? = some (Obj.cells #[.int .u8 (c0.toNat : Int), .int .u8 (c1.toNat : Int), .int .u8 (c2.toNat : Int), .int .u8 (c3.toNat : Int), .int .u16 p] 26) := by
      have h1 := heap_alloc_new w1 (Obj.cells #[.int .u8 (c0.toNat : Int), .int .u8 (c1.toNat : Int), .int .u8 (c2.toNat : Int), .int .u8 (c3.toNat : Int), .int .u16 p] 26)
      exact (hb2.block _ (row_lt h1)).trans h1
    obtain ⟨hc0, hc1, hc2, hc3, hc4⟩ := five_cells hz2
    obtain ⟨hy0, hy1, hy2', hy3, hy4⟩ := five_cells hy2
    have hf := fun j => frozen_of_row w2 _ j _ _ hz2
    have HZ2 := Lib.hid hz2
    have HB3 := Lib.hid (HB2.out.trans (hb2.mono HB2.out.size))
    clear hz2 hy2 hb2 HRA
    generalize hT : adT [c0, c1, c2, c3] p = T at *
    by_cases ht : T = l
    · subst ht
      have HAD := Lib.hid (HEQ.out rfl)
      clear HNE HEQ
      go_wp2
      (try simp only [Exit.inBlock, Exit.then])
      refine ret_row (g := w.heap.size) (cs := #[.int .u8 (c0.toNat : Int), .int .u8 (c1.toNat : Int), .int .u8 (c2.toNat : Int), .int .u8 (c3.toNat : Int), .int .u16 p]) rfl rfl (load_addr (set5 HZ2.out _ _ _ _ _) rfl) rfl ?_
      rw [HAD.out]
      exact ⟨rfl, below_set5 HB3.out (Nat.le_refl _) _ _ _ _ _⟩
    · have HAD := Lib.hid (HNE.out ht)
      have ht2 : (T == l) = false := by rw [beq_eq_false_iff_ne]; exact ht
      have ht3 : ((⟨T.toArray⟩ : ByteArray).toList == (⟨l.toArray⟩ : ByteArray).toList) = false := by
        rw [Lib.toList_data, Lib.toList_data]
        exact ht2
      clear HNE HEQ
      go_wp2
      (try simp only [Exit.inBlock, Exit.then])
      refine ret_row (g := w.heap.size) (cs := #[.int .u8 0, .int .u8 0, .int .u8 0, .int .u8 0, .int .u16 0]) rfl rfl (load_addr (set5 HZ2.out _ _ _ _ _) rfl) rfl ?_
      rw [HAD.out]
      exact ⟨rfl, below_set5 HB3.out (Nat.le_refl _) _ _ _ _ _⟩
end Go.Proofs.YtbahkilfcfbolaaDoor
