/-
  dgram.Open: what it opens of any bytes, of any protocol, of any two hosts. No condition.
-/
import Derived.Test.YthkpkhhnlenioaaOpenD
namespace Go.Proofs.Ythkpkhhnlenioaa
open Go.RowKit

theorem EcO.up {w w1 w2 : World} {r : Ec × Int} {e : Ending} (h : EcO w1 r e w2) (hb : Below w.heap.size w w1) : EcO w r e w2 := by
  obtain ⟨m, h1, h2, h3, h4⟩ := h
  exact ⟨m, h1, hb.trans (h2.mono hb.size), fun hz => by obtain ⟨cs, h5, h6⟩ := h3 hz; exact ⟨cs, h5, h6.wide hb.size (Nat.le_refl _)⟩, h4⟩
theorem DgO.up {w w1 w2 : World} {r : Dg × Int} {e : Ending} (h : DgO w1 r e w2) (hb : Below w.heap.size w w1) : DgO w r e w2 := by
  obtain ⟨m, h1, h2, h3, h4⟩ := h
  exact ⟨m, h1, hb.trans (h2.mono hb.size), fun hz => by obtain ⟨cs, h5, h6⟩ := h3 hz; exact ⟨cs, h5, h6.wide hb.size (Nat.le_refl _)⟩, h4⟩
/-- what is refused -/
def NilO (w : World) (z : Int) (e : Ending) (w' : World) : Prop := e = .returned (.tuple #[.nilIface, .int .i64 z]) ∧ Below w.heap.size w w'
theorem odg_any (A : Option Addr) (l : List UInt8) (n c lo hi : Nat) (s0 s1 s2 s3 d0 d1 d2 d3 : UInt8) (w : World) (hr : Rd w lo hi A (cells l)) (hn : l.length = n) (hc : n ≤ c) (hm : c ≤ maxLen) (hhi : hi ≤ w.heap.size) (hl : n ≤ 1000) :
    Calls Try.prog 22 #[.slice A n c, ipL s0 s1 s2 s3, ipL d0 d1 d2 d3] w (DgO w (dgOpen [s0, s1, s2, s3] [d0, d1, d2, d3] l)) := by
  by_cases h8 : n < 8
  · exact odg_short A l n c lo hi s0 s1 s2 s3 d0 d1 d2 d3 w hr hn hc hm hhi hl h8
  · exact odg_long A l n c lo hi s0 s1 s2 s3 d0 d1 d2 d3 w hr hn hc hm hhi hl h8
theorem open_long (p : Int) (A : Option Addr) (n c : Nat) (s0 s1 s2 s3 d0 d1 d2 d3 : UInt8) (w : World) (hm : n ≤ 9223372036854775807) (hl : 1000 < n) :
    Calls Try.prog 13 #[.int .u8 p, ipL s0 s1 s2 s3, ipL d0 d1 d2 d3, .slice A n c] w (NilO w 4) := by
  obtain ⟨w1, hw1⟩ : ∃ w1, (w.alloc (.cells #[.int .u8 (s0.toNat : Int), .int .u8 (s1.toNat : Int), .int .u8 (s2.toNat : Int), .int .u8 (s3.toNat : Int)] 27)).alloc (.cells #[.int .u8 (d0.toNat : Int), .int .u8 (d1.toNat : Int), .int .u8 (d2.toNat : Int), .int .u8 (d3.toNat : Int)] 27) = w1 := ⟨_, rfl⟩
  have HB1 : Hid (Below w.heap.size w w1) := by show Below _ _ _; rw [← hw1]; exact ((Below.refl _ _).alloc (Nat.le_refl _) _).alloc (by simp) _
  have hgs : w1.heap[w.heap.size]? = some (.cells #[.int .u8 (s0.toNat : Int), .int .u8 (s1.toNat : Int), .int .u8 (s2.toNat : Int), .int .u8 (s3.toNat : Int)] 27 (0, 0)) := by rw [← hw1]; exact old_alloc (heap_alloc_new w _) _
  have hgd : w1.heap[w.heap.size + 1]? = some (.cells #[.int .u8 (d0.toNat : Int), .int .u8 (d1.toNat : Int), .int .u8 (d2.toNat : Int), .int .u8 (d3.toNat : Int)] 27 (0, 0)) := by
    have := heap_alloc_new (w.alloc (.cells #[.int .u8 (s0.toNat : Int), .int .u8 (s1.toNat : Int), .int .u8 (s2.toNat : Int), .int .u8 (s3.toNat : Int)] 27)) (.cells #[.int .u8 (d0.toNat : Int), .int .u8 (d1.toNat : Int), .int .u8 (d2.toNat : Int), .int .u8 (d3.toNat : Int)] 27)
    rw [World.size_alloc] at this
    rw [← hw1]
    exact this
  have HGS := Lib.hid hgs
  have HGD := Lib.hid hgd
  clear hgs hgd
  unfold ipL
  go_enter Try.func13, Try.ntmps13
  go_wp2
  go_ret2
  exact ⟨rfl, HB1.out⟩
theorem open_none (p : UInt8) (A : Option Addr) (n c : Nat) (s0 s1 s2 s3 d0 d1 d2 d3 : UInt8) (w : World) (hl : n ≤ 1000) (h1 : p ≠ 1) (h17 : p ≠ 17) :
    Calls Try.prog 13 #[.int .u8 (p.toNat : Int), ipL s0 s1 s2 s3, ipL d0 d1 d2 d3, .slice A n c] w (NilO w 1) := by
  obtain ⟨w1, hw1⟩ : ∃ w1, (w.alloc (.cells #[.int .u8 (s0.toNat : Int), .int .u8 (s1.toNat : Int), .int .u8 (s2.toNat : Int), .int .u8 (s3.toNat : Int)] 27)).alloc (.cells #[.int .u8 (d0.toNat : Int), .int .u8 (d1.toNat : Int), .int .u8 (d2.toNat : Int), .int .u8 (d3.toNat : Int)] 27) = w1 := ⟨_, rfl⟩
  have HB1 : Hid (Below w.heap.size w w1) := by show Below _ _ _; rw [← hw1]; exact ((Below.refl _ _).alloc (Nat.le_refl _) _).alloc (by simp) _
  have hgs : w1.heap[w.heap.size]? = some (.cells #[.int .u8 (s0.toNat : Int), .int .u8 (s1.toNat : Int), .int .u8 (s2.toNat : Int), .int .u8 (s3.toNat : Int)] 27 (0, 0)) := by rw [← hw1]; exact old_alloc (heap_alloc_new w _) _
  have hgd : w1.heap[w.heap.size + 1]? = some (.cells #[.int .u8 (d0.toNat : Int), .int .u8 (d1.toNat : Int), .int .u8 (d2.toNat : Int), .int .u8 (d3.toNat : Int)] 27 (0, 0)) := by
    have := heap_alloc_new (w.alloc (.cells #[.int .u8 (s0.toNat : Int), .int .u8 (s1.toNat : Int), .int .u8 (s2.toNat : Int), .int .u8 (s3.toNat : Int)] 27)) (.cells #[.int .u8 (d0.toNat : Int), .int .u8 (d1.toNat : Int), .int .u8 (d2.toNat : Int), .int .u8 (d3.toNat : Int)] 27)
    rw [World.size_alloc] at this
    rw [← hw1]
    exact this
  have HGS := Lib.hid hgs
  have HGD := Lib.hid hgd
  clear hgs hgd
  have q1 := beqF (show ¬ (p.toNat : Int) = 1 from fun h => h1 (UInt8.toNat_inj.1 (Int.ofNat.inj h)))
  have q2 := beqF (show ¬ (p.toNat : Int) = 17 from fun h => h17 (UInt8.toNat_inj.1 (Int.ofNat.inj h)))
  unfold ipL
  go_enter Try.func13, Try.ntmps13
  go_wp2
  go_ret2
  exact ⟨rfl, HB1.out⟩
theorem open_ec (A : Option Addr) (l : List UInt8) (n c lo hi : Nat) (s0 s1 s2 s3 d0 d1 d2 d3 : UInt8) (w : World) (hr : Rd w lo hi A (cells l)) (hn : l.length = n) (hc : n ≤ c) (hm : c ≤ maxLen) (hhi : hi ≤ w.heap.size) (hl : n ≤ 1000) :
    Calls Try.prog 13 #[.int .u8 1, ipL s0 s1 s2 s3, ipL d0 d1 d2 d3, .slice A n c] w (EcO w (ecOpen l)) := by
  obtain ⟨w1, hw1⟩ : ∃ w1, (w.alloc (.cells #[.int .u8 (s0.toNat : Int), .int .u8 (s1.toNat : Int), .int .u8 (s2.toNat : Int), .int .u8 (s3.toNat : Int)] 27)).alloc (.cells #[.int .u8 (d0.toNat : Int), .int .u8 (d1.toNat : Int), .int .u8 (d2.toNat : Int), .int .u8 (d3.toNat : Int)] 27) = w1 := ⟨_, rfl⟩
  have HB1 : Hid (Below w.heap.size w w1) := by show Below _ _ _; rw [← hw1]; exact ((Below.refl _ _).alloc (Nat.le_refl _) _).alloc (by simp) _
  have hgs : w1.heap[w.heap.size]? = some (.cells #[.int .u8 (s0.toNat : Int), .int .u8 (s1.toNat : Int), .int .u8 (s2.toNat : Int), .int .u8 (s3.toNat : Int)] 27 (0, 0)) := by rw [← hw1]; exact old_alloc (heap_alloc_new w _) _
  have hgd : w1.heap[w.heap.size + 1]? = some (.cells #[.int .u8 (d0.toNat : Int), .int .u8 (d1.toNat : Int), .int .u8 (d2.toNat : Int), .int .u8 (d3.toNat : Int)] 27 (0, 0)) := by
    have := heap_alloc_new (w.alloc (.cells #[.int .u8 (s0.toNat : Int), .int .u8 (s1.toNat : Int), .int .u8 (s2.toNat : Int), .int .u8 (s3.toNat : Int)] 27)) (.cells #[.int .u8 (d0.toNat : Int), .int .u8 (d1.toNat : Int), .int .u8 (d2.toNat : Int), .int .u8 (d3.toNat : Int)] 27)
    rw [World.size_alloc] at this
    rw [← hw1]
    exact this
  have HGS := Lib.hid hgs
  have HGD := Lib.hid hgd
  clear hgs hgd
  have H := Lib.hid (oec_any A l n c lo hi w1 (hr.below (B := w.heap.size) HB1.out hhi) hn hc hm (Nat.le_trans hhi HB1.out.size) hl)
  clear hr hn hhi
  unfold ipL
  go_enter Try.func13, Try.ntmps13
  go_wp2_with (first | refine wpList_load_row rfl 27 _ rfl w.heap.size rfl 27 #[.int .u8 (s0.toNat : Int), .int .u8 (s1.toNat : Int), .int .u8 (s2.toNat : Int), .int .u8 (s3.toNat : Int)] (0, 0) _ HGS.out Try.underlying27 rfl (by kernel_rfl) ?_ | refine wpList_load_row rfl 27 _ rfl (w.heap.size + 1) rfl 27 #[.int .u8 (d0.toNat : Int), .int .u8 (d1.toNat : Int), .int .u8 (d2.toNat : Int), .int .u8 (d3.toNat : Int)] (0, 0) _ HGD.out Try.underlying27 rfl (by kernel_rfl) ?_)
  refine H.out.mono ?_
  rintro e w2 ⟨m, rfl, h2⟩
  have H2 := Lib.hid h2
  clear h2
  go_wp2
  go_ret2
  exact EcO.up ⟨m, rfl, H2.out⟩ HB1.out
theorem open_dg (A : Option Addr) (l : List UInt8) (n c lo hi : Nat) (s0 s1 s2 s3 d0 d1 d2 d3 : UInt8) (w : World) (hr : Rd w lo hi A (cells l)) (hn : l.length = n) (hc : n ≤ c) (hm : c ≤ maxLen) (hhi : hi ≤ w.heap.size) (hl : n ≤ 1000) :
    Calls Try.prog 13 #[.int .u8 17, ipL s0 s1 s2 s3, ipL d0 d1 d2 d3, .slice A n c] w (DgO w (dgOpen [s0, s1, s2, s3] [d0, d1, d2, d3] l)) := by
  obtain ⟨w1, hw1⟩ : ∃ w1, (w.alloc (.cells #[.int .u8 (s0.toNat : Int), .int .u8 (s1.toNat : Int), .int .u8 (s2.toNat : Int), .int .u8 (s3.toNat : Int)] 27)).alloc (.cells #[.int .u8 (d0.toNat : Int), .int .u8 (d1.toNat : Int), .int .u8 (d2.toNat : Int), .int .u8 (d3.toNat : Int)] 27) = w1 := ⟨_, rfl⟩
  have HB1 : Hid (Below w.heap.size w w1) := by show Below _ _ _; rw [← hw1]; exact ((Below.refl _ _).alloc (Nat.le_refl _) _).alloc (by simp) _
  have hgs : w1.heap[w.heap.size]? = some (.cells #[.int .u8 (s0.toNat : Int), .int .u8 (s1.toNat : Int), .int .u8 (s2.toNat : Int), .int .u8 (s3.toNat : Int)] 27 (0, 0)) := by rw [← hw1]; exact old_alloc (heap_alloc_new w _) _
  have hgd : w1.heap[w.heap.size + 1]? = some (.cells #[.int .u8 (d0.toNat : Int), .int .u8 (d1.toNat : Int), .int .u8 (d2.toNat : Int), .int .u8 (d3.toNat : Int)] 27 (0, 0)) := by
    have := heap_alloc_new (w.alloc (.cells #[.int .u8 (s0.toNat : Int), .int .u8 (s1.toNat : Int), .int .u8 (s2.toNat : Int), .int .u8 (s3.toNat : Int)] 27)) (.cells #[.int .u8 (d0.toNat : Int), .int .u8 (d1.toNat : Int), .int .u8 (d2.toNat : Int), .int .u8 (d3.toNat : Int)] 27)
    rw [World.size_alloc] at this
    rw [← hw1]
    exact this
  have HGS := Lib.hid hgs
  have HGD := Lib.hid hgd
  clear hgs hgd
  have H := Lib.hid (odg_any A l n c lo hi s0 s1 s2 s3 d0 d1 d2 d3 w1 (hr.below (B := w.heap.size) HB1.out hhi) hn hc hm (Nat.le_trans hhi HB1.out.size) hl)
  clear hr hn hhi
  unfold ipL at *
  go_enter Try.func13, Try.ntmps13
  go_wp2_with (first | refine wpList_load_row rfl 27 _ rfl w.heap.size rfl 27 #[.int .u8 (s0.toNat : Int), .int .u8 (s1.toNat : Int), .int .u8 (s2.toNat : Int), .int .u8 (s3.toNat : Int)] (0, 0) _ HGS.out Try.underlying27 rfl (by kernel_rfl) ?_ | refine wpList_load_row rfl 27 _ rfl (w.heap.size + 1) rfl 27 #[.int .u8 (d0.toNat : Int), .int .u8 (d1.toNat : Int), .int .u8 (d2.toNat : Int), .int .u8 (d3.toNat : Int)] (0, 0) _ HGD.out Try.underlying27 rfl (by kernel_rfl) ?_)
  refine H.out.mono ?_
  rintro e w2 ⟨m, rfl, h2⟩
  have H2 := Lib.hid h2
  clear h2
  go_wp2
  go_ret2
  exact DgO.up ⟨m, rfl, H2.out⟩ HB1.out
end Go.Proofs.Ythkpkhhnlenioaa
