/-
  dgram.same and dgram.Same: of two Echoes, two Datagrams, of one of each, of nil, of pointers. No condition.
-/
import Derived.Test.YthkpkhhnlenioaaMsg
namespace Go.Proofs.Ythkpkhhnlenioaa
open Go.RowKit

def ecM (cs : Array Value) : Value := .iface 25 (.agg cs)
def dgM (cs : Array Value) : Value := .iface 43 (.agg cs)
def zEc : Array Value := #[.bool false, .int .u16 0, .int .u16 0, .slice none 0 0]
def zDg : Array Value := #[.int .u16 0, .int .u16 0, .slice none 0 0]
def zSg : Array Value := #[.int .u16 0, .int .u16 0, .int .u32 0, .int .u32 0, .int .u8 0, .int .u16 0, .int .u16 0, .slice none 0 0]
theorem assert_ec (v : Value) (w : World) : (Instr.typeAssert (.iface 25 v) 37 25 true).run Try.prog w = .ok (.tuple #[v, .bool true]) w := by kernel_rfl
theorem assert_dg (v : Value) (w : World) : (Instr.typeAssert (.iface 43 v) 37 43 true).run Try.prog w = .ok (.tuple #[v, .bool true]) w := by kernel_rfl
theorem assert_ec_dg (v : Value) (w : World) : (Instr.typeAssert (.iface 43 v) 37 25 true).run Try.prog w = .ok (.tuple #[.agg zEc, .bool false]) w := by kernel_rfl
theorem assert_dg_ec (v : Value) (w : World) : (Instr.typeAssert (.iface 25 v) 37 43 true).run Try.prog w = .ok (.tuple #[.agg zDg, .bool false]) w := by kernel_rfl
theorem assert_ec_nil (w : World) : (Instr.typeAssert .nilIface 37 25 true).run Try.prog w = .ok (.tuple #[.agg zEc, .bool false]) w := by kernel_rfl
theorem assert_dg_nil (w : World) : (Instr.typeAssert .nilIface 37 43 true).run Try.prog w = .ok (.tuple #[.agg zDg, .bool false]) w := by kernel_rfl
theorem assert_ec_pt (v : Value) (w : World) : (Instr.typeAssert (.iface 53 v) 37 25 true).run Try.prog w = .ok (.tuple #[.agg zEc, .bool false]) w := by kernel_rfl
theorem assert_dg_pt (v : Value) (w : World) : (Instr.typeAssert (.iface 53 v) 37 43 true).run Try.prog w = .ok (.tuple #[.agg zDg, .bool false]) w := by kernel_rfl
theorem assert_sg_pt (v : Value) (w : World) : (Instr.typeAssert (.iface 53 v) 37 56 true).run Try.prog w = .ok (.tuple #[.agg zSg, .bool false]) w := by kernel_rfl
theorem assert_ec_sg (v : Value) (w : World) : (Instr.typeAssert (.iface 56 v) 37 25 true).run Try.prog w = .ok (.tuple #[.agg zEc, .bool false]) w := by kernel_rfl
theorem assert_dg_sg (v : Value) (w : World) : (Instr.typeAssert (.iface 56 v) 37 43 true).run Try.prog w = .ok (.tuple #[.agg zDg, .bool false]) w := by kernel_rfl
theorem same_wrap (a b : Value) (r : Bool) (w : World) (h : Calls Try.prog 23 #[a, b] w fun e w' => e = .returned (.bool r) ∧ Below w.heap.size w w') :
    Calls Try.prog 14 #[a, b] w fun e w' => e = .returned (.bool r) ∧ Below w.heap.size w w' := by
  have H := Lib.hid h
  clear h
  go_enter Try.func14, Try.ntmps14
  go_wp2_with fail
  refine H.out.mono ?_
  rintro e w1 ⟨rfl, hb⟩
  have HB := Lib.hid hb
  clear hb
  go_wp2
  go_ret
  exact ⟨rfl, HB.out⟩
set_option maxRecDepth 100000 in
set_option maxHeartbeats 4000000 in
theorem same_ec0 (cs ds : Array Value) (x y : Ec) (lo hi lo' hi' : Nat) (w : World) (hx : EcC w lo hi cs x) (hy : EcC w lo' hi' ds y) (hhi : hi ≤ w.heap.size) (hhi' : hi' ≤ w.heap.size) :
    Calls Try.prog 23 #[ecM cs, ecM ds] w fun e w' => e = .returned (.bool (ecEq x y)) ∧ Below w.heap.size w w' := by
  have hx2 := hx
  have hy2 := hy
  obtain ⟨A, c, rfl, _⟩ := hx2
  obtain ⟨A', c', rfl, _⟩ := hy2
  have HB := (((Below.refl w.heap.size w).alloc (Nat.le_refl _) (.cells #[.bool x.reply, .int .u16 (x.id : Int), .int .u16 (x.seq : Int), .slice A x.data.length c] 25)).alloc (by simp) (.cells #[.bool y.reply, .int .u16 (y.id : Int), .int .u16 (y.seq : Int), .slice A' y.data.length c'] 25))
  have he := Lib.hid (sameec_any _ _ x y lo hi lo' hi' _ (hx.below HB hhi) (hy.below HB hhi') (by simp; omega) (by simp; omega))
  have HB := Lib.hid HB
  clear hx hy hhi hhi'
  unfold ecM
  have a1 := assert_ec
  go_enter Try.func23, Try.ntmps23
  go_wp2_with fail
  refine he.out.mono ?_
  rintro e w1 ⟨rfl, hb⟩
  have HB2 := Lib.hid (HB.out.trans (hb.mono (by simp; omega)))
  clear hb
  go_wp2
  go_ret
  exact ⟨rfl, HB2.out⟩
set_option maxRecDepth 100000 in
set_option maxHeartbeats 4000000 in
theorem same_dg0 (cs ds : Array Value) (x y : Dg) (lo hi lo' hi' : Nat) (w : World) (hx : DgC w lo hi cs x) (hy : DgC w lo' hi' ds y) (hhi : hi ≤ w.heap.size) (hhi' : hi' ≤ w.heap.size) :
    Calls Try.prog 23 #[dgM cs, dgM ds] w fun e w' => e = .returned (.bool (dgEq x y)) ∧ Below w.heap.size w w' := by
  have hx2 := hx
  have hy2 := hy
  obtain ⟨A, c, rfl, _⟩ := hx2
  obtain ⟨A', c', rfl, _⟩ := hy2
  have HB := (((Below.refl w.heap.size w).alloc (Nat.le_refl _) (.cells #[.int .u16 (x.src : Int), .int .u16 (x.dst : Int), .slice A x.data.length c] 43)).alloc (by simp) (.cells #[.int .u16 (y.src : Int), .int .u16 (y.dst : Int), .slice A' y.data.length c'] 43))
  have he := Lib.hid (samedg_any _ _ x y lo hi lo' hi' _ (hx.below HB hhi) (hy.below HB hhi') (by simp; omega) (by simp; omega))
  have HB := Lib.hid HB
  clear hx hy hhi hhi'
  unfold dgM
  have a1 := assert_ec_dg
  have a2 := assert_dg
  go_enter Try.func23, Try.ntmps23
  go_wp2_with fail
  refine he.out.mono ?_
  rintro e w1 ⟨rfl, hb⟩
  have HB2 := Lib.hid (HB.out.trans (hb.mono (by simp; omega)))
  clear hb
  go_wp2
  go_ret
  exact ⟨rfl, HB2.out⟩
set_option maxRecDepth 100000 in
set_option maxHeartbeats 1000000 in
theorem same_ecdg0 (cs ds : Array Value) (x : Ec) (y : Dg) (lo hi lo' hi' : Nat) (w : World) (hx : EcC w lo hi cs x) (hy : DgC w lo' hi' ds y) :
    Calls Try.prog 23 #[ecM cs, dgM ds] w fun e w' => e = .returned (.bool false) ∧ Below w.heap.size w w' := by
  obtain ⟨A, c, rfl, _⟩ := hx
  obtain ⟨A', c', rfl, _⟩ := hy
  have HB := Lib.hid ((((Below.refl w.heap.size w).alloc (Nat.le_refl _) (.cells #[.bool x.reply, .int .u16 (x.id : Int), .int .u16 (x.seq : Int), .slice A x.data.length c] 25)).alloc (by simp) (.cells zEc 25)))
  unfold ecM dgM
  have a1 := assert_ec
  have a2 := assert_ec_dg
  unfold zEc at *
  go_enter Try.func23, Try.ntmps23
  go_wp2
  go_ret
  exact ⟨rfl, HB.out⟩
set_option maxRecDepth 100000 in
set_option maxHeartbeats 1000000 in
theorem same_dgec0 (cs ds : Array Value) (x : Ec) (y : Dg) (lo hi lo' hi' : Nat) (w : World) (hx : EcC w lo hi cs x) (hy : DgC w lo' hi' ds y) :
    Calls Try.prog 23 #[dgM ds, ecM cs] w fun e w' => e = .returned (.bool false) ∧ Below w.heap.size w w' := by
  obtain ⟨A, c, rfl, _⟩ := hx
  obtain ⟨A', c', rfl, _⟩ := hy
  have HB := Lib.hid ((((Below.refl w.heap.size w).alloc (Nat.le_refl _) (.cells #[.int .u16 (y.src : Int), .int .u16 (y.dst : Int), .slice A' y.data.length c'] 43)).alloc (by simp) (.cells zDg 43)))
  unfold ecM dgM
  have a1 := assert_ec_dg
  have a2 := assert_dg
  have a3 := assert_dg_ec
  unfold zDg zEc at *
  go_enter Try.func23, Try.ntmps23
  go_wp2
  go_ret
  exact ⟨rfl, HB.out⟩
set_option maxRecDepth 100000 in
set_option maxHeartbeats 1000000 in
theorem same_nil0 (w : World) : Calls Try.prog 23 #[.nilIface, .nilIface] w fun e w' => e = .returned (.bool true) ∧ Below w.heap.size w w' := by
  go_enter Try.func23, Try.ntmps23
  go_wp2
  go_ret
  exact ⟨rfl, Below.refl _ _⟩
set_option maxRecDepth 100000 in
set_option maxHeartbeats 1000000 in
theorem same_nildg0 (ds : Array Value) (w : World) : Calls Try.prog 23 #[.nilIface, dgM ds] w fun e w' => e = .returned (.bool false) ∧ Below w.heap.size w w' := by
  unfold dgM
  go_enter Try.func23, Try.ntmps23
  go_wp2
  go_ret
  exact ⟨rfl, Below.refl _ _⟩
set_option maxRecDepth 100000 in
set_option maxHeartbeats 1000000 in
theorem same_dgnil0 (ds : Array Value) (y : Dg) (lo' hi' : Nat) (w : World) (hy : DgC w lo' hi' ds y) : Calls Try.prog 23 #[dgM ds, .nilIface] w fun e w' => e = .returned (.bool false) ∧ Below w.heap.size w w' := by
  obtain ⟨A', c', rfl, _⟩ := hy
  have HB := Lib.hid ((((Below.refl w.heap.size w).alloc (Nat.le_refl _) (.cells #[.int .u16 (y.src : Int), .int .u16 (y.dst : Int), .slice A' y.data.length c'] 43)).alloc (by simp) (.cells zDg 43)))
  unfold dgM
  have a1 := assert_ec_dg
  have a2 := assert_dg
  have a3 := assert_dg_nil
  unfold zDg zEc at *
  go_enter Try.func23, Try.ntmps23
  go_wp2
  go_ret
  exact ⟨rfl, HB.out⟩
set_option maxRecDepth 100000 in
set_option maxHeartbeats 1000000 in
theorem same_pt0 (v v' : Value) (w : World) : Calls Try.prog 23 #[.iface 53 v, .iface 53 v'] w fun e w' => e = .returned (.bool false) ∧ Below w.heap.size w w' := by
  have a1 := assert_ec_pt
  have a2 := assert_dg_pt
  have a3 := assert_sg_pt
  unfold zDg zEc zSg at *
  go_enter Try.func23, Try.ntmps23
  go_wp2
  go_ret
  exact ⟨rfl, Below.refl _ _⟩
theorem same_ec (cs ds : Array Value) (x y : Ec) (lo hi lo' hi' : Nat) (w : World) (hx : EcC w lo hi cs x) (hy : EcC w lo' hi' ds y) (hhi : hi ≤ w.heap.size) (hhi' : hi' ≤ w.heap.size) :
    Calls Try.prog 14 #[ecM cs, ecM ds] w fun e w' => e = .returned (.bool (ecEq x y)) ∧ Below w.heap.size w w' := same_wrap _ _ _ _ (same_ec0 cs ds x y lo hi lo' hi' w hx hy hhi hhi')
theorem same_dg (cs ds : Array Value) (x y : Dg) (lo hi lo' hi' : Nat) (w : World) (hx : DgC w lo hi cs x) (hy : DgC w lo' hi' ds y) (hhi : hi ≤ w.heap.size) (hhi' : hi' ≤ w.heap.size) :
    Calls Try.prog 14 #[dgM cs, dgM ds] w fun e w' => e = .returned (.bool (dgEq x y)) ∧ Below w.heap.size w w' := same_wrap _ _ _ _ (same_dg0 cs ds x y lo hi lo' hi' w hx hy hhi hhi')
end Go.Proofs.Ythkpkhhnlenioaa
