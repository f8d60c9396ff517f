/-
  AddrTexts returns true for every text, and turns nothing that was there; and the forms in which the laws meet what is read.
-/
import Derived.Test.YtbahkilfcfbolaaDoorLives
import Derived.Test.YtbahkilfcfbolaaDoorWithin
namespace Go.Proofs.YtbahkilfcfbolaaDoor
open Go.RowKit

theorem ip_form (l : List UInt8) : ∃ (x0 x1 x2 x3 : UInt8) (er : Int), ipOf l = ([x0, x1, x2, x3], er) ∧ (er = 0 ∧ ipT [x0, x1, x2, x3] = l ∨ er = 7 ∧ ∀ a : List UInt8, a.length = 4 → ipT a ≠ l) := by
  rcases ipOf_cases l with ⟨a, ha, rfl, h⟩ | ⟨h, hno⟩
  · obtain ⟨x0, x1, x2, x3, rfl⟩ := cells4_of a ha
    exact ⟨x0, x1, x2, x3, 0, h, .inl ⟨rfl, rfl⟩⟩
  · exact ⟨0, 0, 0, 0, 7, h, .inr ⟨rfl, hno⟩⟩
theorem ad_form (l : List UInt8) : ∃ (x0 x1 x2 x3 : UInt8) (p : Nat) (er : Int), adOf l = (([x0, x1, x2, x3], p), er) ∧ p < 65536 ∧ (er = 0 ∧ adT [x0, x1, x2, x3] p = l ∨ er = 7 ∧ ∀ (a : List UInt8) (p : Nat), a.length = 4 → p < 65536 → adT a p ≠ l) := by
  rcases adOf_cases l with ⟨a, p, ha, hp, rfl, h⟩ | ⟨h, hno⟩
  · obtain ⟨x0, x1, x2, x3, rfl⟩ := cells4_of a ha
    exact ⟨x0, x1, x2, x3, p, 0, h, hp, .inl ⟨rfl, rfl⟩⟩
  · exact ⟨0, 0, 0, 0, 0, 7, h, by omega, .inr ⟨rfl, hno⟩⟩
theorem cells6_of (a : List UInt8) (ha : a.length = 6) : ∃ x0 x1 x2 x3 x4 x5 : UInt8, a = [x0, x1, x2, x3, x4, x5] := by
  match a, ha with
  | [x0, x1, x2, x3, x4, x5], _ => exact ⟨x0, x1, x2, x3, x4, x5, rfl⟩
theorem mac_form (l : List UInt8) : ∃ (x0 x1 x2 x3 x4 x5 : UInt8) (er : Int), macOf l = ([x0, x1, x2, x3, x4, x5], er) ∧ (er = 0 ∧ macT [x0, x1, x2, x3, x4, x5] = l ∨ er = 7 ∧ ∀ a : List UInt8, a.length = 6 → macT a ≠ l) := by
  rcases macOf_cases l with ⟨a, ha, rfl, h⟩ | ⟨h, hno⟩
  · obtain ⟨x0, x1, x2, x3, x4, x5, rfl⟩ := cells6_of a ha
    exact ⟨x0, x1, x2, x3, x4, x5, 0, h, .inl ⟨rfl, rfl⟩⟩
  · exact ⟨0, 0, 0, 0, 0, 0, 7, h, .inr ⟨rfl, hno⟩⟩

/-- literals, as the laws' walks meet them -/
abbrev ip4 (x0 x1 x2 x3 : UInt8) : Array Value := #[.int .u8 (x0.toNat : Int), .int .u8 (x1.toNat : Int), .int .u8 (x2.toNat : Int), .int .u8 (x3.toNat : Int)]
abbrev ad5 (x0 x1 x2 x3 : UInt8) (p : Nat) : Array Value := #[.int .u8 (x0.toNat : Int), .int .u8 (x1.toNat : Int), .int .u8 (x2.toNat : Int), .int .u8 (x3.toNat : Int), .int .u16 p]
abbrev mac6 (x0 x1 x2 x3 x4 x5 : UInt8) : Array Value := #[.int .u8 (x0.toNat : Int), .int .u8 (x1.toNat : Int), .int .u8 (x2.toNat : Int), .int .u8 (x3.toNat : Int), .int .u8 (x4.toNat : Int), .int .u8 (x5.toNat : Int)]
theorem write_lit (x0 x1 x2 x3 : UInt8) (p : Nat) (w : World) (hp : p < 65536) (hR : Ready w) :
    Calls Tryd.prog 14 #[.agg (ad5 x0 x1 x2 x3 p)] w fun e w' => e = .returned (txt (adT [x0, x1, x2, x3] p)) ∧ Below w.heap.size w w' := write_any [x0, x1, x2, x3] p w rfl hp hR
theorem writeip_lit (x0 x1 x2 x3 : UInt8) (w : World) (hR : Ready w) :
    Calls Tryd.prog 16 #[.agg (ip4 x0 x1 x2 x3)] w fun e w' => e = .returned (txt (ipT [x0, x1, x2, x3])) ∧ Below w.heap.size w w' := writeip_any [x0, x1, x2, x3] w rfl hR
theorem writemac_lit (x0 x1 x2 x3 x4 x5 : UInt8) (w : World) :
    Calls Tryd.prog 20 #[.agg (mac6 x0 x1 x2 x3 x4 x5)] w fun e w' => e = .returned (txt (macT [x0, x1, x2, x3, x4, x5])) ∧ Below w.heap.size w w' := writemac_any [x0, x1, x2, x3, x4, x5] w rfl
theorem read_lit {l : List UInt8} {x0 x1 x2 x3 : UInt8} {p : Nat} {er : Int} (h : adOf l = (([x0, x1, x2, x3], p), er)) (w : World) (hl : l.length ≤ 1000000000) (hR : Ready w) :
    Calls Tryd.prog 10 #[txt l] w fun e w' => e = .returned (.tuple #[.agg (ad5 x0 x1 x2 x3 p), .int .i64 er]) ∧ Below w.heap.size w w' := by
  have := read_any l w hl hR
  rw [h] at this
  exact this
theorem readip_lit {l : List UInt8} {x0 x1 x2 x3 : UInt8} {er : Int} (h : ipOf l = ([x0, x1, x2, x3], er)) (w : World) (hl : l.length ≤ 1000000000) (hR : Ready w) :
    Calls Tryd.prog 12 #[txt l] w fun e w' => e = .returned (.tuple #[.agg (ip4 x0 x1 x2 x3), .int .i64 er]) ∧ Below w.heap.size w w' := by
  have := readip_any l w hl hR
  rw [h] at this
  exact this
theorem readmac_lit {l : List UInt8} {x0 x1 x2 x3 x4 x5 : UInt8} {er : Int} (h : macOf l = ([x0, x1, x2, x3, x4, x5], er)) (w : World) (hl : l.length ≤ 1000000000) (hR : Ready w) :
    Calls Tryd.prog 18 #[txt l] w fun e w' => e = .returned (.tuple #[.agg (mac6 x0 x1 x2 x3 x4 x5), .int .i64 er]) ∧ Below w.heap.size w w' := by
  have := readmac_any l w hl hR
  rw [h] at this
  exact this

theorem mac_open (x0 x1 x2 x3 x4 x5 : UInt8) : macT [x0, x1, x2, x3, x4, x5] = hexL [x0] ++ 58 :: (hexL [x1] ++ 58 :: macT [x2, x3, x4, x5]) := by
  unfold macT
  simp only [List.map_cons, List.map_nil]
  rw [join_two, join_two]
  simp
theorem ip_not_ad (a b : List UInt8) (p : Nat) : ipT a ≠ adT b p := fun e => ipT_no a (by rw [e]; simp [adT])
theorem ip_not_mac (a b : List UInt8) (hb : b.length = 6) : ipT a ≠ macT b := by
  obtain ⟨x0, x1, x2, x3, x4, x5, rfl⟩ := cells6_of b hb
  exact fun e => ipT_no a (by rw [e, mac_open]; simp)
theorem ad_not_mac (a b : List UInt8) (p : Nat) (hb : b.length = 6) : adT a p ≠ macT b := by
  obtain ⟨x0, x1, x2, x3, x4, x5, rfl⟩ := cells6_of b hb
  rw [mac_open]
  intro e
  have h := (mark_split (ipT_no a) (hex1_no x0) e).2
  exact no_mark (c := 58) (by decide) p (by rw [h]; simp)

set_option maxRecDepth 100000 in
theorem texts_big (s : ByteArray) (w : World) (hR : Ready w) (h : 100 < s.size) (hs : s.size ≤ 140737488351232) :
    Calls Tryd.prog 8 #[.string s] w fun e w' => e = .returned (.bool true) ∧ Below w.heap.size w w' := by
  go_enter Tryd.func8, Tryd.ntmps8
  go_wp2_with fail
  refine (lives_any _ hR).mono ?_
  rintro e w1 ⟨rfl, hb1⟩
  go_wp2_with fail
  refine (lives_any _ (hR.below hb1 (Nat.le_refl _))).mono ?_
  rintro e w2 ⟨rfl, hb2⟩
  go_wp2
  go_ret
  exact ⟨rfl, hb1.trans (hb2.mono hb1.size)⟩

set_option maxRecDepth 100000 in
set_option maxHeartbeats 2000000 in
theorem texts_walk (l : List UInt8) (w : World) (hR : Ready w) (hl : l.length ≤ 100) :
    Calls Tryd.prog 8 #[txt l] w fun e w' => e = .returned (.bool true) ∧ Below w.heap.size w w' := by
  obtain ⟨x0, x1, x2, x3, p, er, had, hp, hadc⟩ := ad_form l
  obtain ⟨y0, y1, y2, y3, fr, hip, hipc⟩ := ip_form l
  obtain ⟨z0, z1, z2, z3, z4, z5, gr, hmc, hmcc⟩ := mac_form l
  have HAD := Lib.hid had
  have HIP := Lib.hid hip
  have HMC := Lib.hid hmc
  clear had hip hmc
  have HC : Hid ((er = 7 ∧ fr = 7 ∧ gr = 7) ∨ (er = 0 ∧ fr = 7 ∧ gr = 7 ∧ adT [x0, x1, x2, x3] p = l) ∨ (er = 7 ∧ fr = 0 ∧ gr = 7 ∧ ipT [y0, y1, y2, y3] = l) ∨ (er = 7 ∧ fr = 7 ∧ gr = 0 ∧ macT [z0, z1, z2, z3, z4, z5] = l)) := by
    show _ ∨ _
    rcases hadc with ⟨e1, f1⟩ | ⟨e1, f1⟩ <;> rcases hipc with ⟨e2, f2⟩ | ⟨e2, f2⟩ <;> rcases hmcc with ⟨e3, f3⟩ | ⟨e3, f3⟩
    · exact absurd (f2.trans f1.symm) (ip_not_ad _ _ _)
    · exact absurd (f2.trans f1.symm) (ip_not_ad _ _ _)
    · exact absurd (f1.trans f3.symm) (ad_not_mac _ _ _ rfl)
    · exact .inr (.inl ⟨e1, e2, e3, f1⟩)
    · exact absurd (f2.trans f3.symm) (ip_not_mac _ _ rfl)
    · exact .inr (.inr (.inl ⟨e1, e2, e3, f2⟩))
    · exact .inr (.inr (.inr ⟨e1, e2, e3, f3⟩))
    · exact .inl ⟨e1, e2, e3⟩
  clear hadc hipc hmcc
  go_enter Tryd.func8, Tryd.ntmps8
  go_wp2_with fail
  refine (lives_any _ hR).mono ?_
  rintro e w1 ⟨rfl, hb1⟩
  have HB1 := Lib.hid hb1
  clear hb1
  go_wp2_with fail
  refine (read_lit HAD.out _ (by omega) (hR.below HB1.out (Nat.le_refl _))).mono ?_
  rintro e w2 ⟨rfl, hb2⟩
  have HB2 := Lib.hid ((HB1.out.trans (hb2.mono HB1.out.size)).alloc (HB1.out.trans (hb2.mono HB1.out.size)).size (.cells (ad5 x0 x1 x2 x3 p) 26))
  have HZ2 := Lib.hid (heap_alloc_new w2 (.cells (ad5 x0 x1 x2 x3 p) 26))
  clear hb2
  go_wp2_with fail
  refine (readip_lit HIP.out _ (by omega) (hR.below HB2.out (Nat.le_refl _))).mono ?_
  rintro e w3 ⟨rfl, hb3⟩
  have HB3 := Lib.hid ((HB2.out.trans (hb3.mono HB2.out.size)).alloc (HB2.out.trans (hb3.mono HB2.out.size)).size (.cells (ip4 y0 y1 y2 y3) 23))
  have HY3 := Lib.hid (heap_alloc_new w3 (.cells (ip4 y0 y1 y2 y3) 23))
  have HZ3 := Lib.hid (old_alloc ((hb3.block _ (row_lt HZ2.out)).trans HZ2.out) (.cells (ip4 y0 y1 y2 y3) 23))
  clear hb3
  go_wp2_with fail
  refine (readmac_lit HMC.out _ (by omega) (hR.below HB3.out (Nat.le_refl _))).mono ?_
  rintro e w4 ⟨rfl, hb4⟩
  have HB4 := Lib.hid ((HB3.out.trans (hb4.mono HB3.out.size)).alloc (HB3.out.trans (hb4.mono HB3.out.size)).size (.cells (mac6 z0 z1 z2 z3 z4 z5) 41))
  have hx4 := old_alloc ((hb4.block _ (row_lt HZ3.out)).trans HZ3.out) (.cells (mac6 z0 z1 z2 z3 z4 z5) 41)
  have hy4 := old_alloc ((hb4.block _ (row_lt HY3.out)).trans HY3.out) (.cells (mac6 z0 z1 z2 z3 z4 z5) 41)
  clear hb4
  obtain ⟨ha0, ha1, ha2, ha3, ha4⟩ := five_cells hx4
  obtain ⟨hi0, hi1, hi2, hi3⟩ := four_cells4 hy4
  clear hx4 hy4
  rcases HC.out with ⟨rfl, rfl, rfl⟩ | ⟨rfl, rfl, rfl, h⟩ | ⟨rfl, rfl, rfl, h⟩ | ⟨rfl, rfl, rfl, h⟩
  · go_wp2
    go_ret
    exact ⟨rfl, HB4.out⟩
  · have H := Lib.hid h
    clear h
    go_wp2_with fail
    refine (write_lit _ _ _ _ _ _ hp (hR.below HB4.out (Nat.le_refl _))).mono ?_
    rintro e w5 ⟨rfl, hb5⟩
    rw [H.out]
    go_wp2
    go_ret
    exact ⟨rfl, HB4.out.trans (hb5.mono HB4.out.size)⟩
  · have H := Lib.hid h
    clear h
    go_wp2_with fail
    refine (writeip_lit _ _ _ _ _ (hR.below HB4.out (Nat.le_refl _))).mono ?_
    rintro e w5 ⟨rfl, hb5⟩
    rw [H.out]
    go_wp2
    go_ret
    exact ⟨rfl, HB4.out.trans (hb5.mono HB4.out.size)⟩
  · have H := Lib.hid h
    clear h
    go_wp2_with fail
    refine (writemac_lit _ _ _ _ _ _ _).mono ?_
    rintro e w5 ⟨rfl, hb5⟩
    rw [H.out]
    go_wp2
    go_ret
    exact ⟨rfl, HB4.out.trans (hb5.mono HB4.out.size)⟩
end Go.Proofs.YtbahkilfcfbolaaDoor
