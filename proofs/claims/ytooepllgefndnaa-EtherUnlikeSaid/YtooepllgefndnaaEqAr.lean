/-
  Whether two Arps are the same, as '==' of two of them answers. No condition.
-/
import Derived.Test.YtooepllgefndnaaEq
import Derived.Test.YtooepllgefndnaaHold
namespace Go.Proofs.Ytooepllgefndnaa
open Go.RowKit

abbrev ar21 (o : Int) (x0 x1 x2 x3 x4 x5 y0 y1 y2 y3 u0 u1 u2 u3 u4 u5 v0 v1 v2 v3 : UInt8) : Array Value := #[.int .i64 o, .int .u8 (x0.toNat : Int), .int .u8 (x1.toNat : Int), .int .u8 (x2.toNat : Int), .int .u8 (x3.toNat : Int), .int .u8 (x4.toNat : Int), .int .u8 (x5.toNat : Int), .int .u8 (y0.toNat : Int), .int .u8 (y1.toNat : Int), .int .u8 (y2.toNat : Int), .int .u8 (y3.toNat : Int), .int .u8 (u0.toNat : Int), .int .u8 (u1.toNat : Int), .int .u8 (u2.toNat : Int), .int .u8 (u3.toNat : Int), .int .u8 (u4.toNat : Int), .int .u8 (u5.toNat : Int), .int .u8 (v0.toNat : Int), .int .u8 (v1.toNat : Int), .int .u8 (v2.toNat : Int), .int .u8 (v3.toNat : Int)]
theorem part_int (xs : Array Value) (off : Nat) (v : Value) (h : xs[off]? = some v) (w : World) : (part 3 xs off).run Try.prog w = .ok v w := by
  have ha : (isAgg 3).run Try.prog w = .ok false w := by kernel_rfl
  unfold part
  simp [Sem.run_bind, ha, h]
theorem part_mac (xs cs : Array Value) (off : Nat) (h : xs.extract off (off + 6) = cs) (w : World) : (part 23 xs off).run Try.prog w = .ok (.agg cs) w := by
  have ha : ∀ w, (isAgg 23).run Try.prog w = .ok true w := fun w => by kernel_rfl
  have hs : ∀ w, (Go.sizeOf 23).run Try.prog w = .ok 6 w := fun w => by kernel_rfl
  unfold part
  simp [Sem.run_bind, ha, hs, h]
theorem part_ip (xs cs : Array Value) (off : Nat) (h : xs.extract off (off + 4) = cs) (w : World) : (part 42 xs off).run Try.prog w = .ok (.agg cs) w := by
  have ha : ∀ w, (isAgg 42).run Try.prog w = .ok true w := fun w => by kernel_rfl
  have hs : ∀ w, (Go.sizeOf 42).run Try.prog w = .ok 4 w := fun w => by kernel_rfl
  unfold part
  simp [Sem.run_bind, ha, hs, h]

set_option maxHeartbeats 1000000 in
theorem eq_ar (d : Nat) (o o' : Int) (x0 x1 x2 x3 x4 x5 y0 y1 y2 y3 u0 u1 u2 u3 u4 u5 v0 v1 v2 v3 a0 a1 a2 a3 a4 a5 b0 b1 b2 b3 c0 c1 c2 c3 c4 c5 e0 e1 e2 e3 : UInt8) (w : World) :
    (Op.equalIn (d + 3) 44 (.agg (ar21 o x0 x1 x2 x3 x4 x5 y0 y1 y2 y3 u0 u1 u2 u3 u4 u5 v0 v1 v2 v3)) (.agg (ar21 o' a0 a1 a2 a3 a4 a5 b0 b1 b2 b3 c0 c1 c2 c3 c4 c5 e0 e1 e2 e3))).run Try.prog w = .ok (arEq ⟨o, [x0, x1, x2, x3, x4, x5], [y0, y1, y2, y3], [u0, u1, u2, u3, u4, u5], [v0, v1, v2, v3]⟩ ⟨o', [a0, a1, a2, a3, a4, a5], [b0, b1, b2, b3], [c0, c1, c2, c3, c4, c5], [e0, e1, e2, e3]⟩) w := by
  have hfs : Try.prog.underlying 44 = some (.struct (Try.prog.fieldsOf 44)) := by
    simp only [Program.fieldsOf, Try.underlying44]
  rw [run_equalIn_struct w (d + 2) _ _ _ hfs (by kernel_rfl)]
  simp only [Program.fieldsOf, Try.underlying44]
  have p0 : ∀ (o : Int) (x0 x1 x2 x3 x4 x5 y0 y1 y2 y3 u0 u1 u2 u3 u4 u5 v0 v1 v2 v3 : UInt8) (w : World), (part 3 (ar21 o x0 x1 x2 x3 x4 x5 y0 y1 y2 y3 u0 u1 u2 u3 u4 u5 v0 v1 v2 v3) 0).run Try.prog w = .ok (.int .i64 o) w := fun _ _ _ _ _ _ _ _ _ _ _ _ _ _ _ _ _ _ _ _ _ w => part_int _ _ _ rfl w
  have p1 : ∀ (o : Int) (x0 x1 x2 x3 x4 x5 y0 y1 y2 y3 u0 u1 u2 u3 u4 u5 v0 v1 v2 v3 : UInt8) (w : World), (part 23 (ar21 o x0 x1 x2 x3 x4 x5 y0 y1 y2 y3 u0 u1 u2 u3 u4 u5 v0 v1 v2 v3) 1).run Try.prog w = .ok (.agg (mac6 x0 x1 x2 x3 x4 x5)) w := fun _ _ _ _ _ _ _ _ _ _ _ _ _ _ _ _ _ _ _ _ _ w => part_mac _ _ _ (by simp) w
  have p2 : ∀ (o : Int) (x0 x1 x2 x3 x4 x5 y0 y1 y2 y3 u0 u1 u2 u3 u4 u5 v0 v1 v2 v3 : UInt8) (w : World), (part 42 (ar21 o x0 x1 x2 x3 x4 x5 y0 y1 y2 y3 u0 u1 u2 u3 u4 u5 v0 v1 v2 v3) 7).run Try.prog w = .ok (.agg (ip4 y0 y1 y2 y3)) w := fun _ _ _ _ _ _ _ _ _ _ _ _ _ _ _ _ _ _ _ _ _ w => part_ip _ _ _ (by simp) w
  have p3 : ∀ (o : Int) (x0 x1 x2 x3 x4 x5 y0 y1 y2 y3 u0 u1 u2 u3 u4 u5 v0 v1 v2 v3 : UInt8) (w : World), (part 23 (ar21 o x0 x1 x2 x3 x4 x5 y0 y1 y2 y3 u0 u1 u2 u3 u4 u5 v0 v1 v2 v3) 11).run Try.prog w = .ok (.agg (mac6 u0 u1 u2 u3 u4 u5)) w := fun _ _ _ _ _ _ _ _ _ _ _ _ _ _ _ _ _ _ _ _ _ w => part_mac _ _ _ (by simp) w
  have p4 : ∀ (o : Int) (x0 x1 x2 x3 x4 x5 y0 y1 y2 y3 u0 u1 u2 u3 u4 u5 v0 v1 v2 v3 : UInt8) (w : World), (part 42 (ar21 o x0 x1 x2 x3 x4 x5 y0 y1 y2 y3 u0 u1 u2 u3 u4 u5 v0 v1 v2 v3) 17).run Try.prog w = .ok (.agg (ip4 v0 v1 v2 v3)) w := fun _ _ _ _ _ _ _ _ _ _ _ _ _ _ _ _ _ _ _ _ _ w => part_ip _ _ _ (by simp) w
  generalize hA : ar21 o x0 x1 x2 x3 x4 x5 y0 y1 y2 y3 u0 u1 u2 u3 u4 u5 v0 v1 v2 v3 = XA
  generalize hB : ar21 o' a0 a1 a2 a3 a4 a5 b0 b1 b2 b3 c0 c1 c2 c3 c4 c5 e0 e1 e2 e3 = XB
  have qa0 := p0 o x0 x1 x2 x3 x4 x5 y0 y1 y2 y3 u0 u1 u2 u3 u4 u5 v0 v1 v2 v3
  have qa1 := p1 o x0 x1 x2 x3 x4 x5 y0 y1 y2 y3 u0 u1 u2 u3 u4 u5 v0 v1 v2 v3
  have qa2 := p2 o x0 x1 x2 x3 x4 x5 y0 y1 y2 y3 u0 u1 u2 u3 u4 u5 v0 v1 v2 v3
  have qa3 := p3 o x0 x1 x2 x3 x4 x5 y0 y1 y2 y3 u0 u1 u2 u3 u4 u5 v0 v1 v2 v3
  have qa4 := p4 o x0 x1 x2 x3 x4 x5 y0 y1 y2 y3 u0 u1 u2 u3 u4 u5 v0 v1 v2 v3
  have qb0 := p0 o' a0 a1 a2 a3 a4 a5 b0 b1 b2 b3 c0 c1 c2 c3 c4 c5 e0 e1 e2 e3
  have qb1 := p1 o' a0 a1 a2 a3 a4 a5 b0 b1 b2 b3 c0 c1 c2 c3 c4 c5 e0 e1 e2 e3
  have qb2 := p2 o' a0 a1 a2 a3 a4 a5 b0 b1 b2 b3 c0 c1 c2 c3 c4 c5 e0 e1 e2 e3
  have qb3 := p3 o' a0 a1 a2 a3 a4 a5 b0 b1 b2 b3 c0 c1 c2 c3 c4 c5 e0 e1 e2 e3
  have qb4 := p4 o' a0 a1 a2 a3 a4 a5 b0 b1 b2 b3 c0 c1 c2 c3 c4 c5 e0 e1 e2 e3
  rw [hA] at qa0 qa1 qa2 qa3 qa4
  rw [hB] at qb0 qb1 qb2 qb3 qb4
  clear p0 p1 p2 p3 p4 hA hB hfs
  have r1 := eqv_mac d x0 x1 x2 x3 x4 x5 a0 a1 a2 a3 a4 a5 _ rfl
  have r2 := eqv_ip d y0 y1 y2 y3 b0 b1 b2 b3 _ rfl
  have r3 := eqv_mac d u0 u1 u2 u3 u4 u5 c0 c1 c2 c3 c4 c5 _ rfl
  have r4 := eqv_ip d v0 v1 v2 v3 e0 e1 e2 e3 _ rfl
  have r0 : ∀ w, (Op.equalIn (d + 2) 3 (.int .i64 o) (.int .i64 o')).run Try.prog w = .ok (decide (o = o')) w := fun w => by
    rw [run_equalIn_int w (d + 1) _ .i64 .i64 _ _ Try.underlying3]
    congr 1
  unfold arEq
  simp only
  generalize mac6 x0 x1 x2 x3 x4 x5 = M1 at qa1 r1
  generalize mac6 a0 a1 a2 a3 a4 a5 = N1 at qb1 r1
  generalize ip4 y0 y1 y2 y3 = M2 at qa2 r2
  generalize ip4 b0 b1 b2 b3 = N2 at qb2 r2
  generalize mac6 u0 u1 u2 u3 u4 u5 = M3 at qa3 r3
  generalize mac6 c0 c1 c2 c3 c4 c5 = N3 at qb3 r3
  generalize ip4 v0 v1 v2 v3 = M4 at qa4 r4
  generalize ip4 e0 e1 e2 e3 = N4 at qb4 r4
  generalize [x0, x1, x2, x3, x4, x5] = L1 at r1 ⊢
  generalize [a0, a1, a2, a3, a4, a5] = K1 at r1 ⊢
  generalize [y0, y1, y2, y3] = L2 at r2 ⊢
  generalize [b0, b1, b2, b3] = K2 at r2 ⊢
  generalize [u0, u1, u2, u3, u4, u5] = L3 at r3 ⊢
  generalize [c0, c1, c2, c3, c4, c5] = K3 at r3 ⊢
  generalize [v0, v1, v2, v3] = L4 at r4 ⊢
  generalize [e0, e1, e2, e3] = K4 at r4 ⊢
  simp only [Op.eqFields, Sem.run_bind, Sem.run_ite, qa0, qa1, qa2, qa3, qa4, qb0, qb1, qb2, qb3, qb4, r0, r1, r2, r3, r4, Result.andThen_ok, Sem.run_pure]
  by_cases h0 : o = o' <;> by_cases h1 : L1 = K1 <;> by_cases h2 : L2 = K2 <;> by_cases h3 : L3 = K3 <;> by_cases h4 : L4 = K4 <;> simp [h0, h1, h2, h3, h4]

/-- '==' of two Arps -/
theorem eq_arps (d : Nat) (cs ds : Array Value) (a b : Ar) (ha : ArV cs a) (hb : ArV ds b) (v : Bool) (hv : arEq a b = v) (w : World) : (Op.equalIn (d + 3) 44 (.agg cs) (.agg ds)).run Try.prog w = .ok v w := by
  subst hv
  obtain ⟨rfl, h1, h2, h3, h4⟩ := ha
  obtain ⟨rfl, k1, k2, k3, k4⟩ := hb
  obtain ⟨o, m, i, p, j⟩ := a
  obtain ⟨o', m', i', p', j'⟩ := b
  simp only at h1 h2 h3 h4 k1 k2 k3 k4
  obtain ⟨x0, x1, x2, x3, x4, x5, rfl⟩ := six_of m h1
  obtain ⟨y0, y1, y2, y3, rfl⟩ := four_of i h2
  obtain ⟨u0, u1, u2, u3, u4, u5, rfl⟩ := six_of p h3
  obtain ⟨v0, v1, v2, v3, rfl⟩ := four_of j h4
  obtain ⟨a0, a1, a2, a3, a4, a5, rfl⟩ := six_of m' k1
  obtain ⟨b0, b1, b2, b3, rfl⟩ := four_of i' k2
  obtain ⟨c0, c1, c2, c3, c4, c5, rfl⟩ := six_of p' k3
  obtain ⟨e0, e1, e2, e3, rfl⟩ := four_of j' k4
  exact eq_ar d o o' x0 x1 x2 x3 x4 x5 y0 y1 y2 y3 u0 u1 u2 u3 u4 u5 v0 v1 v2 v3 a0 a1 a2 a3 a4 a5 b0 b1 b2 b3 c0 c1 c2 c3 c4 c5 e0 e1 e2 e3 w
end Go.Proofs.Ytooepllgefndnaa
