/-
  dgram.build and dgram.Build: of an Echo, a Datagram, and of what is neither. No condition.
-/
import Derived.Test.YthkpkhhnlenioaaBuildE
import Derived.Test.YthkpkhhnlenioaaBuildD
namespace Go.Proofs.Ythkpkhhnlenioaa
open Go.RowKit

def ipL (s0 s1 s2 s3 : UInt8) : Value := .agg #[.int .u8 (s0.toNat : Int), .int .u8 (s1.toNat : Int), .int .u8 (s2.toNat : Int), .int .u8 (s3.toNat : Int)]
theorem ecBuild_any (cs : Array Value) (x : Ec) (lo hi : Nat) (w : World) (h : EcC w lo hi cs x) (hhi : hi ≤ w.heap.size) :
    Calls Try.prog 27 #[.agg cs] w (OwnPost w (ecBuild x)) := by
  unfold ecBuild
  by_cases hl : 992 < x.data.length
  · rw [if_pos hl]
    obtain ⟨A, c, rfl, _, _, hlc, hcm, _⟩ := h
    exact bec_long _ _ _ _ c A w hl (by unfold maxLen at hcm; omega)
  · rw [if_neg hl]
    exact bec_fits cs x lo hi w h hhi (by omega)
theorem dgBuild_any (cs : Array Value) (x : Dg) (s0 s1 s2 s3 d0 d1 d2 d3 : UInt8) (lo hi : Nat) (w : World) (h : DgC w lo hi cs x) (hhi : hi ≤ w.heap.size) :
    Calls Try.prog 28 #[.agg cs, ipL s0 s1 s2 s3, ipL d0 d1 d2 d3] w (OwnPost w (dgBuild [s0, s1, s2, s3] [d0, d1, d2, d3] x)) := by
  unfold dgBuild
  by_cases hl : 992 < x.data.length
  · rw [if_pos hl]
    obtain ⟨A, c, rfl, _, _, hlc, hcm, _⟩ := h
    exact bdg_long _ _ _ c A _ _ _ _ _ _ _ _ w hl (by unfold maxLen at hcm; omega)
  · rw [if_neg hl]
    exact bdg_fits cs x _ _ _ _ _ _ _ _ lo hi w h hhi (by omega)
theorem OwnPost.up {w w1 w2 : World} {r : List UInt8 × Int} {e : Ending} (h : OwnPost w1 r e w2) (hb : Below w.heap.size w w1) : OwnPost w r e w2 := by
  obtain ⟨A, c, h1, h2, h3⟩ := h
  exact ⟨A, c, h1, own_base h2 hb.size, hb.trans (h3.mono hb.size)⟩
theorem build_wrap (m a b : Value) (s0 s1 s2 s3 d0 d1 d2 d3 : UInt8) (r : List UInt8 × Int) (w : World) (ha : a = ipL s0 s1 s2 s3) (hb : b = ipL d0 d1 d2 d3)
    (h : ∀ w', Below w.heap.size w w' → Calls Try.prog 18 #[m, a, b] w' (OwnPost w' r)) :
    Calls Try.prog 11 #[m, a, b] w (OwnPost w r) := by
  subst ha hb
  obtain ⟨w1, hw1⟩ : ∃ w1, (w.alloc (.cells #[.int .u8 (s0.toNat : Int), .int .u8 (s1.toNat : Int), .int .u8 (s2.toNat : Int), .int .u8 (s3.toNat : Int)] 27)).alloc (.cells #[.int .u8 (d0.toNat : Int), .int .u8 (d1.toNat : Int), .int .u8 (d2.toNat : Int), .int .u8 (d3.toNat : Int)] 27) = w1 := ⟨_, rfl⟩
  have HB1 : Hid (Below w.heap.size w w1) := by show Below _ _ _; rw [← hw1]; exact ((Below.refl _ _).alloc (Nat.le_refl _) _).alloc (by simp) _
  have hgs : w1.heap[w.heap.size]? = some (.cells #[.int .u8 (s0.toNat : Int), .int .u8 (s1.toNat : Int), .int .u8 (s2.toNat : Int), .int .u8 (s3.toNat : Int)] 27 (0, 0)) := by rw [← hw1]; exact old_alloc (heap_alloc_new w _) _
  have hgd : w1.heap[w.heap.size + 1]? = some (.cells #[.int .u8 (d0.toNat : Int), .int .u8 (d1.toNat : Int), .int .u8 (d2.toNat : Int), .int .u8 (d3.toNat : Int)] 27 (0, 0)) := by
    have := heap_alloc_new (w.alloc (.cells #[.int .u8 (s0.toNat : Int), .int .u8 (s1.toNat : Int), .int .u8 (s2.toNat : Int), .int .u8 (s3.toNat : Int)] 27)) (.cells #[.int .u8 (d0.toNat : Int), .int .u8 (d1.toNat : Int), .int .u8 (d2.toNat : Int), .int .u8 (d3.toNat : Int)] 27)
    rw [World.size_alloc] at this
    rw [← hw1]
    exact this
  have HGS := Lib.hid hgs
  have HGD := Lib.hid hgd
  have H := Lib.hid (h w1 HB1.out)
  clear hgs hgd h
  unfold ipL at *
  go_enter Try.func11, Try.ntmps11
  go_wp2_with (first | refine wpList_load_row rfl 27 _ rfl w.heap.size rfl 27 #[.int .u8 (s0.toNat : Int), .int .u8 (s1.toNat : Int), .int .u8 (s2.toNat : Int), .int .u8 (s3.toNat : Int)] (0, 0) _ HGS.out Try.underlying27 rfl (by kernel_rfl) ?_ | refine wpList_load_row rfl 27 _ rfl (w.heap.size + 1) rfl 27 #[.int .u8 (d0.toNat : Int), .int .u8 (d1.toNat : Int), .int .u8 (d2.toNat : Int), .int .u8 (d3.toNat : Int)] (0, 0) _ HGD.out Try.underlying27 rfl (by kernel_rfl) ?_)
  refine H.out.mono ?_
  rintro e w2 ⟨A, c, rfl, ho, hb⟩
  have HO := Lib.hid ho
  have HB2 := Lib.hid hb
  clear ho hb
  go_wp2
  go_ret2
  exact OwnPost.up (w1 := w1) ⟨A, c, rfl, HO.out, HB2.out⟩ HB1.out
set_option maxRecDepth 100000 in
set_option maxHeartbeats 1000000 in
theorem build_ec0 (cs : Array Value) (x : Ec) (s0 s1 s2 s3 d0 d1 d2 d3 : UInt8) (lo hi : Nat) (w : World) (h : EcC w lo hi cs x) (hhi : hi ≤ w.heap.size) :
    Calls Try.prog 18 #[ecM cs, ipL s0 s1 s2 s3, ipL d0 d1 d2 d3] w (OwnPost w (ecBuild x)) := by
  have h2 := h
  obtain ⟨A, c, rfl, _⟩ := h2
  have HB := ((((Below.refl w.heap.size w).alloc (Nat.le_refl _) (.cells #[.int .u8 (s0.toNat : Int), .int .u8 (s1.toNat : Int), .int .u8 (s2.toNat : Int), .int .u8 (s3.toNat : Int)] 27)).alloc (by simp) (.cells #[.int .u8 (d0.toNat : Int), .int .u8 (d1.toNat : Int), .int .u8 (d2.toNat : Int), .int .u8 (d3.toNat : Int)] 27)).alloc (by simp; omega) (.cells #[.bool x.reply, .int .u16 (x.id : Int), .int .u16 (x.seq : Int), .slice A x.data.length c] 25))
  have H := Lib.hid (ecBuild_any _ x lo hi _ (h.below HB hhi) (by simp; omega))
  have HB := Lib.hid HB
  clear h hhi
  unfold ecM ipL
  have a1 := assert_ec
  go_enter Try.func18, Try.ntmps18
  go_wp2_with fail
  refine H.out.mono ?_
  rintro e w2 ⟨A, c, rfl, ho, hb⟩
  have HO := Lib.hid ho
  have HB2 := Lib.hid hb
  clear ho hb
  go_wp2
  go_ret2
  exact OwnPost.up ⟨A, c, rfl, HO.out, HB2.out⟩ HB.out
set_option maxRecDepth 100000 in
set_option maxHeartbeats 1000000 in
theorem build_dg0 (cs : Array Value) (x : Dg) (s0 s1 s2 s3 d0 d1 d2 d3 : UInt8) (lo hi : Nat) (w : World) (h : DgC w lo hi cs x) (hhi : hi ≤ w.heap.size) :
    Calls Try.prog 18 #[dgM cs, ipL s0 s1 s2 s3, ipL d0 d1 d2 d3] w (OwnPost w (dgBuild [s0, s1, s2, s3] [d0, d1, d2, d3] x)) := by
  have h2 := h
  obtain ⟨A, c, rfl, _⟩ := h2
  have HB := ((((Below.refl w.heap.size w).alloc (Nat.le_refl _) (.cells #[.int .u8 (s0.toNat : Int), .int .u8 (s1.toNat : Int), .int .u8 (s2.toNat : Int), .int .u8 (s3.toNat : Int)] 27)).alloc (by simp) (.cells #[.int .u8 (d0.toNat : Int), .int .u8 (d1.toNat : Int), .int .u8 (d2.toNat : Int), .int .u8 (d3.toNat : Int)] 27)).alloc (by simp; omega) (.cells #[.int .u16 (x.src : Int), .int .u16 (x.dst : Int), .slice A x.data.length c] 43))
  have H := Lib.hid (dgBuild_any _ x s0 s1 s2 s3 d0 d1 d2 d3 lo hi _ (h.below HB hhi) (by simp; omega))
  have HB := Lib.hid HB
  clear h hhi
  unfold dgM
  unfold ipL at *
  have a1 := assert_ec_dg
  have a2 := assert_dg
  go_enter Try.func18, Try.ntmps18
  go_wp2_with fail
  refine H.out.mono ?_
  rintro e w2 ⟨A, c, rfl, ho, hb⟩
  have HO := Lib.hid ho
  have HB2 := Lib.hid hb
  clear ho hb
  go_wp2
  go_ret2
  exact OwnPost.up ⟨A, c, rfl, HO.out, HB2.out⟩ HB.out
set_option maxRecDepth 100000 in
set_option maxHeartbeats 1000000 in
theorem build_not0 (m : Value) (s0 s1 s2 s3 d0 d1 d2 d3 : UInt8) (w : World) (h : m = .nilIface ∨ (∃ v, m = .iface 53 v) ∨ ∃ v, m = .iface 56 v) :
    Calls Try.prog 18 #[m, ipL s0 s1 s2 s3, ipL d0 d1 d2 d3] w (OwnPost w ([], 1)) := by
  have HB := Lib.hid (((Below.refl w.heap.size w).alloc (Nat.le_refl _) (.cells #[.int .u8 (s0.toNat : Int), .int .u8 (s1.toNat : Int), .int .u8 (s2.toNat : Int), .int .u8 (s3.toNat : Int)] 27)).alloc (by simp) (.cells #[.int .u8 (d0.toNat : Int), .int .u8 (d1.toNat : Int), .int .u8 (d2.toNat : Int), .int .u8 (d3.toNat : Int)] 27))
  have a1 := assert_ec_nil
  have a2 := assert_dg_nil
  have a3 := assert_ec_pt
  have a4 := assert_dg_pt
  have a5 := assert_ec_sg
  have a6 := assert_dg_sg
  unfold zEc zDg at *
  unfold ipL
  rcases h with rfl | ⟨v, rfl⟩ | ⟨v, rfl⟩
  all_goals
    go_enter Try.func18, Try.ntmps18
    go_wp2
    go_ret2
    exact own_none rfl HB.out
theorem build_ec (cs : Array Value) (x : Ec) (s0 s1 s2 s3 d0 d1 d2 d3 : UInt8) (lo hi : Nat) (w : World) (h : EcC w lo hi cs x) (hhi : hi ≤ w.heap.size) :
    Calls Try.prog 11 #[ecM cs, ipL s0 s1 s2 s3, ipL d0 d1 d2 d3] w (OwnPost w (ecBuild x)) :=
  build_wrap _ _ _ s0 s1 s2 s3 d0 d1 d2 d3 _ w rfl rfl fun w' hb => build_ec0 cs x _ _ _ _ _ _ _ _ lo hi w' (h.below hb hhi) (Nat.le_trans hhi hb.size)
theorem build_dg (cs : Array Value) (x : Dg) (s0 s1 s2 s3 d0 d1 d2 d3 : UInt8) (lo hi : Nat) (w : World) (h : DgC w lo hi cs x) (hhi : hi ≤ w.heap.size) :
    Calls Try.prog 11 #[dgM cs, ipL s0 s1 s2 s3, ipL d0 d1 d2 d3] w (OwnPost w (dgBuild [s0, s1, s2, s3] [d0, d1, d2, d3] x)) :=
  build_wrap _ _ _ s0 s1 s2 s3 d0 d1 d2 d3 _ w rfl rfl fun w' hb => build_dg0 cs x _ _ _ _ _ _ _ _ lo hi w' (h.below hb hhi) (Nat.le_trans hhi hb.size)
theorem build_not (m : Value) (s0 s1 s2 s3 d0 d1 d2 d3 : UInt8) (w : World) (h : m = .nilIface ∨ (∃ v, m = .iface 53 v) ∨ ∃ v, m = .iface 56 v) :
    Calls Try.prog 11 #[m, ipL s0 s1 s2 s3, ipL d0 d1 d2 d3] w (OwnPost w ([], 1)) :=
  build_wrap _ _ _ s0 s1 s2 s3 d0 d1 d2 d3 _ w rfl rfl fun w' _ => build_not0 m _ _ _ _ _ _ _ _ w' h
end Go.Proofs.Ythkpkhhnlenioaa
