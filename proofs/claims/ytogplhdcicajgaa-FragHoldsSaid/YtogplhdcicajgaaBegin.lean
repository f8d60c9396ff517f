/-
  frag.begin: the hole of a piece that is the first of its packet to come. Every packet that can be read. No condition.
-/
import Derived.Test.YtogplhdcicajgaaIndex
namespace Go.Proofs.Ytogplhdcicajgaa
open Go.RowKit

set_option maxRecDepth 100000 in
set_option maxHeartbeats 4000000 in
theorem begin_any (cs : Array Value) (p : Pk) (lo hi now : Nat) (w : World) (h : PkV w lo hi cs p) (hn : now < 18446744073709551616) :
    Calls Try.prog 17 #[.agg cs, .int .u64 (now : Int)] w fun e w' => ∃ ds, e = .returned (.agg ds) ∧ HkT w' ds.toList (beginP p now) ∧ Below w.heap.size w w' := by
  obtain ⟨A, c, he, hok, _⟩ := h
  obtain ⟨id, mr, off, ttl, proto, src, dst, data⟩ := p
  have hok2 := hok
  obtain ⟨hid, hs, hd⟩ := hok
  simp only at hs hd he hid
  obtain ⟨s0, s1, s2, s3, rfl⟩ := four_of src hs
  obtain ⟨d0, d1, d2, d3, rfl⟩ := four_of dst hd
  simp only [pkC, cells, List.map_cons, List.map_nil, List.cons_append, List.nil_append] at he
  subst he
  have HID := Lib.hid hid
  have HNW := Lib.hid hn
  clear hok2 hs hd hid hn
  go_enter Try.func17, Try.ntmps17
  go_wp2
  refine ret_one (g := w.heap.size + 1) rfl rfl (t := 49) (fr := (0, 0)) (by have := heap_alloc_new (w.alloc (.cells #[.int .u16 (id : Int), .bool mr, .int .i64 off, .int .u8 (ttl.toNat : Int), .int .u8 (proto.toNat : Int), .int .u8 (s0.toNat : Int), .int .u8 (s1.toNat : Int), .int .u8 (s2.toNat : Int), .int .u8 (s3.toNat : Int), .int .u8 (d0.toNat : Int), .int .u8 (d1.toNat : Int), .int .u8 (d2.toNat : Int), .int .u8 (d3.toNat : Int), .slice A data.length c] 27)) (.cells (hkC (beginP ⟨id, mr, off, ttl, proto, [s0, s1, s2, s3], [d0, d1, d2, d3], data⟩ now) (.slice none 0 0)).toArray 49); rw [World.size_alloc] at this; exact this) Try.underlying49 rfl (by kernel_rfl) rfl ?_
  refine ⟨_, rfl, ⟨_, rfl, ⟨HID.out, rfl, rfl, HNW.out, (by show (-1 : Int) ≤ -1; decide), (by show (-1 : Int) ≤ 1000; decide), Nat.zero_le _, fun p hp => by cases hp⟩, none, 0, [], rfl, Tr.nil, RowOf.nil, Nat.le_refl _, Nat.zero_le _, fun _ => rfl⟩, ((Below.refl _ _).alloc (Nat.le_refl _) _).alloc (by simp) _⟩
end Go.Proofs.Ytogplhdcicajgaa
