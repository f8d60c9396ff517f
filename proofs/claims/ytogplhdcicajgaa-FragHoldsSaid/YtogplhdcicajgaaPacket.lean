/-
  frag.packet: what a whole hole has become. Every hole with a part. No condition.
-/
import Derived.Test.YtogplhdcicajgaaWhole
import Derived.StillTailTactics
namespace Go.Proofs.Ytogplhdcicajgaa
open Go.RowKit

theorem first_here {w : World} {A : Option Addr} {xs : List Value} {a b : Value} (h : Tr w 0 60 A xs) (h0 : xs[0 * 2]? = some a) (h1 : xs[0 * 2 + 1]? = some b) : ∃ g o, A = some ⟨g, o, none⟩ ∧ g < w.heap.size ∧ w.cell? ⟨g, o, none⟩ = some a ∧ w.cell? ⟨g, o + 1, none⟩ = some b := by
  obtain ⟨g, o, C, rfl, _, hg, q0⟩ := h _ _ h0
  obtain ⟨g', o', C', e, _, hg', q1⟩ := h _ _ h1
  injection e with e
  injection e with e1 e2
  subst e1 e2
  rw [hg] at hg'
  injection hg' with hg'
  injection hg' with e3
  subst e3
  exact ⟨g, o, rfl, row_lt hg, by rw [cell_of_row _ _ _ _ _ _ hg]; simpa using q0, by rw [cell_of_row _ _ _ _ _ _ hg]; simpa using q1⟩

set_option maxRecDepth 100000 in
set_option maxHeartbeats 4000000 in
theorem packet_any (ds : Array Value) (h : Hk) (w : World) (hh : HkT w ds.toList h) (hg : 0 < h.got.length) :
    Calls Try.prog 22 #[.agg ds] w fun e w' => ∃ es, e = .returned (.agg es) ∧ PkT w' 0 es.toList (packetP h) ∧ Below w.heap.size w w' := by
  obtain ⟨v0, he, hok, A', c', xs, rfl, htr, hrow, _⟩ := hh
  obtain ⟨t, r, htl⟩ : ∃ t r, h.got = t :: r := by
    rcases hgt : h.got with _ | ⟨t, r⟩
    · rw [hgt] at hg; simp at hg
    · exact ⟨t, r, rfl⟩
  obtain ⟨v, e0, e1, A2, c2, rfl, htb⟩ := part_at hrow (k := 0) (pk := t) (by rw [htl]; rfl)
  obtain ⟨src, dst, proto, id, ttl, since, fin, got⟩ := h
  simp only at he hrow htl hg
  subst htl
  obtain ⟨hid, hs, hd, hsi, _⟩ := hok
  simp only at hs hd hid hsi
  obtain ⟨s0, s1, s2, s3, rfl⟩ := four_of src hs
  obtain ⟨d0, d1, d2, d3, rfl⟩ := four_of dst hd
  have he2 : ds = #[.int .u8 (s0.toNat : Int), .int .u8 (s1.toNat : Int), .int .u8 (s2.toNat : Int), .int .u8 (s3.toNat : Int), .int .u8 (d0.toNat : Int), .int .u8 (d1.toNat : Int), .int .u8 (d2.toNat : Int), .int .u8 (d3.toNat : Int), .int .u8 (proto.toNat : Int), .int .u16 (id : Int), .int .u8 (ttl.toNat : Int), .int .u64 (since : Int), .int .i64 fin, .slice A' (t :: r).length c'] := by
    apply Array.ext'
    rw [he]
    rfl
  subst he2
  obtain ⟨n, hn⟩ : ∃ n, (t :: r).length = n := ⟨_, rfl⟩
  have hn0 : 0 < n := by rw [← hn]; simp
  rw [hn]
  obtain ⟨m, hm⟩ : ∃ m, t.data.length = m := ⟨_, rfl⟩
  rw [hm] at e1
  have HM := Lib.hid hm
  have HTB : Hid (TB w 0 t.data (.slice A2 t.data.length c2)) := ⟨A2, c2, rfl, htb⟩
  have HID := Lib.hid hid
  have HTR := Lib.hid htr
  have HE0 := Lib.hid e0
  have HE1 := Lib.hid e1
  clear he hrow hg hs hd hid hsi hn hm htb htr e0 e1
  obtain ⟨g, oo, rfl, hgl, q0, q1⟩ := first_here HTR.out HE0.out HE1.out
  have HGL := Lib.hid hgl
  go_enter Try.func22, Try.ntmps22
  go_wp2_with fail
  obtain ⟨wq, hwq⟩ : ∃ wq, (w.alloc (.cells #[.int .u8 (s0.toNat : Int), .int .u8 (s1.toNat : Int), .int .u8 (s2.toNat : Int), .int .u8 (s3.toNat : Int), .int .u8 (d0.toNat : Int), .int .u8 (d1.toNat : Int), .int .u8 (d2.toNat : Int), .int .u8 (d3.toNat : Int), .int .u8 (proto.toNat : Int), .int .u16 (id : Int), .int .u8 (ttl.toNat : Int), .int .u64 (since : Int), .int .i64 fin, .slice (some ⟨g, oo, none⟩) n c'] 49)).alloc (.cells #[.int .u16 0, .bool false, .int .i64 0, .int .u8 0, .int .u8 0, .int .u8 0, .int .u8 0, .int .u8 0, .int .u8 0, .int .u8 0, .int .u8 0, .int .u8 0, .int .u8 0, .slice none 0 0] 27) = wq := ⟨_, rfl⟩
  have HBQ : Hid (Below w.heap.size w wq) := by rw [← hwq]; exact ((Below.refl _ _).alloc (Nat.le_refl _) _).alloc (by simp) _
  have hg1 : wq.heap[w.heap.size]? = some (.cells #[.int .u8 (s0.toNat : Int), .int .u8 (s1.toNat : Int), .int .u8 (s2.toNat : Int), .int .u8 (s3.toNat : Int), .int .u8 (d0.toNat : Int), .int .u8 (d1.toNat : Int), .int .u8 (d2.toNat : Int), .int .u8 (d3.toNat : Int), .int .u8 (proto.toNat : Int), .int .u16 (id : Int), .int .u8 (ttl.toNat : Int), .int .u64 (since : Int), .int .i64 fin, .slice (some ⟨g, oo, none⟩) n c'] 49 (0, 0)) := by rw [← hwq]; exact old_alloc (heap_alloc_new w _) _
  have hg2 : wq.heap[w.heap.size + 1]? = some (.cells #[.int .u16 0, .bool false, .int .i64 0, .int .u8 0, .int .u8 0, .int .u8 0, .int .u8 0, .int .u8 0, .int .u8 0, .int .u8 0, .int .u8 0, .int .u8 0, .int .u8 0, .slice none 0 0] 27 (0, 0)) := by
    have := heap_alloc_new (w.alloc (.cells #[.int .u8 (s0.toNat : Int), .int .u8 (s1.toNat : Int), .int .u8 (s2.toNat : Int), .int .u8 (s3.toNat : Int), .int .u8 (d0.toNat : Int), .int .u8 (d1.toNat : Int), .int .u8 (d2.toNat : Int), .int .u8 (d3.toNat : Int), .int .u8 (proto.toNat : Int), .int .u16 (id : Int), .int .u8 (ttl.toNat : Int), .int .u64 (since : Int), .int .i64 fin, .slice (some ⟨g, oo, none⟩) n c'] 49)) (.cells #[.int .u16 0, .bool false, .int .i64 0, .int .u8 0, .int .u8 0, .int .u8 0, .int .u8 0, .int .u8 0, .int .u8 0, .int .u8 0, .int .u8 0, .int .u8 0, .int .u8 0, .slice none 0 0] 27)
    rw [World.size_alloc] at this
    rw [← hwq]
    exact this
  have HG2 := Lib.hid hg2
  have z := fun j => cell_of_row wq w.heap.size j _ _ _ hg1
  have z0 := z 0
  have z1 := z 1
  have z2 := z 2
  have z3 := z 3
  have z4 := z 4
  have z5 := z 5
  have z6 := z 6
  have z7 := z 7
  have z8 := z 8
  have z9 := z 9
  have z10 := z 10
  have z13 := z 13
  simp at z0 z1 z2 z3 z4 z5 z6 z7 z8 z9 z10 z13
  have y0 : wq.cell? ⟨g, oo, none⟩ = _ := (HBQ.out.cell (p := ⟨g, oo, none⟩) hgl).trans q0
  have y1 : wq.cell? ⟨g, oo + 1, none⟩ = _ := (HBQ.out.cell (p := ⟨g, oo + 1, none⟩) hgl).trans q1
  rw [hwq]
  clear hwq hg1 hg2 z q0 q1 hgl
  go_still_tail 16, (by kernel_rfl)
  change wpList _ _ _ _ _ wq.drew
  have HBD : Hid (Below w.heap.size w wq.drew) := HBQ.out.drew
  have HGD : Hid (wq.drew.heap[w.heap.size + 1]? = some (.cells #[.int .u16 0, .bool false, .int .i64 0, .int .u8 0, .int .u8 0, .int .u8 0, .int .u8 0, .int .u8 0, .int .u8 0, .int .u8 0, .int .u8 0, .int .u8 0, .int .u8 0, .slice none 0 0] 27 (0, 0))) := HG2.out
  have HTB2 := Lib.hid (HTB.out.below HBD.out (Nat.le_refl _))
  generalize wq.drew = w2 at HBD HGD HTB2 ⊢
  have HONE : Hid ((#[.int .u16 (id : Int), .bool false, .int .i64 0, .int .u8 (ttl.toNat : Int), .int .u8 (proto.toNat : Int), .int .u8 (s0.toNat : Int), .int .u8 (s1.toNat : Int), .int .u8 (s2.toNat : Int), .int .u8 (s3.toNat : Int), .int .u8 (d0.toNat : Int), .int .u8 (d1.toNat : Int), .int .u8 (d2.toNat : Int), .int .u8 (d3.toNat : Int), .slice A2 m c2] : Array Value).all (·.oneCell') = true) := all_one (pkC_one ⟨id, false, 0, ttl, proto, [s0, s1, s2, s3], [d0, d1, d2, d3], []⟩ (.slice A2 m c2) rfl)
  go_wp2_with (refine wpList_store_row rfl 27 _ _ rfl (w.heap.size + 1) #[.int .u16 (id : Int), .bool false, .int .i64 0, .int .u8 (ttl.toNat : Int), .int .u8 (proto.toNat : Int), .int .u8 (s0.toNat : Int), .int .u8 (s1.toNat : Int), .int .u8 (s2.toNat : Int), .int .u8 (s3.toNat : Int), .int .u8 (d0.toNat : Int), .int .u8 (d1.toNat : Int), .int .u8 (d2.toNat : Int), .int .u8 (d3.toNat : Int), .slice A2 m c2] rfl rfl _ _ HGD.out (by kernel_rfl) rfl HONE.out ?_)
  (try simp only [Exit.inBlock, Exit.then])
  refine ret_one (g := w.heap.size + 1) rfl rfl (setRow_heap w2 _ _ _ _ _ HGD.out) Try.underlying27 rfl (by kernel_rfl) rfl ?_
  refine ⟨_, rfl, ⟨.slice A2 m c2, rfl, ⟨HID.out, rfl, rfl⟩, ⟨by show (-9223372036854775808 : Int) ≤ 0; decide, by show (0 : Int) ≤ 9223372036854775807; decide⟩, ?_⟩, below_setRow HBD.out (by omega) _⟩
  have := HTB2.out
  rw [HM.out] at this
  exact this.keep fun A h => h.setRow HGD.out (by decide) _
end Go.Proofs.Ytogplhdcicajgaa
