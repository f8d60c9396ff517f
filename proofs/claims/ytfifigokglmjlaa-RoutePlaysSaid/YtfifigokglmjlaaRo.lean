/-
  Routes' words: hosts' addresses and routes as cells, the numbers of addresses, noughts behind the first bits, which route comes first, whether two are one. No condition.
-/
import Derived.Test.YtfifigokglmjlaaElem
namespace Go.Proofs.Ytfifigokglmjlaa
open Go.RowKit

theorem info_ro : (Try.prog.info? 28).map (fun i => (i.zero, i.size, i.bytes)) = some (some (.agg #[.int .u8 0, .int .u8 0, .int .u8 0, .int .u8 0, .int .i64 0, .int .u8 0, .int .u8 0, .int .u8 0, .int .u8 0]), 9, 24) := by kernel_rfl

/-- a host's address -/
structure Ip where
  x0 : UInt8
  x1 : UInt8
  x2 : UInt8
  x3 : UInt8
deriving DecidableEq
/-- by whom hosts can be had -/
structure Ro where
  net : Ip
  bits : Int
  via : Ip
deriving DecidableEq
def ipA (a : Ip) : Array Value := #[.int .u8 (a.x0.toNat : Int), .int .u8 (a.x1.toNat : Int), .int .u8 (a.x2.toNat : Int), .int .u8 (a.x3.toNat : Int)]
def roA (r : Ro) : Array Value := #[.int .u8 (r.net.x0.toNat : Int), .int .u8 (r.net.x1.toNat : Int), .int .u8 (r.net.x2.toNat : Int), .int .u8 (r.net.x3.toNat : Int), .int .i64 r.bits, .int .u8 (r.via.x0.toNat : Int), .int .u8 (r.via.x1.toNat : Int), .int .u8 (r.via.x2.toNat : Int), .int .u8 (r.via.x3.toNat : Int)]
theorem ipE : El ipA 4 := ⟨fun _ => rfl, fun a => by simp [ipA, Value.oneCell']⟩
theorem roE : El roA 9 := ⟨fun _ => rfl, fun a => by simp [roA, Value.oneCell']⟩
theorem roA_net (r : Ro) (j : Nat) (v : Value) (h : (ipA r.net)[j]? = some v) : (roA r)[j]? = some v := by
  have hj := (Array.getElem?_eq_some_iff.1 h).1
  rw [ipE.size] at hj
  rcases j with _ | _ | _ | _ | j
  · exact h
  · exact h
  · exact h
  · exact h
  · omega
theorem roA_via (r : Ro) (j : Nat) (v : Value) (h : (ipA r.via)[j]? = some v) : (roA r)[5 + j]? = some v := by
  have hj := (Array.getElem?_eq_some_iff.1 h).1
  rw [ipE.size] at hj
  rcases j with _ | _ | _ | _ | j
  · exact h
  · exact h
  · exact h
  · exact h
  · omega
theorem roA_bits (r : Ro) : (roA r)[4]? = some (.int .i64 r.bits) := rfl
abbrev RoT (w : World) (v : Value) (K : List Ro) : Prop := SlT roA w v K

/-! ### numbers -/
def Ip.num (a : Ip) : Nat := ((a.x0.toNat * 256 + a.x1.toNat) * 256 + a.x2.toNat) * 256 + a.x3.toNat
def ipOf (n : Nat) : Ip := ⟨UInt8.ofNat (n / 16777216), UInt8.ofNat (n / 65536), UInt8.ofNat (n / 256), UInt8.ofNat n⟩
theorem ip_lt (a : Ip) : a.num < 4294967296 := by
  have h0 := a.x0.toNat_lt
  have h1 := a.x1.toNat_lt
  have h2 := a.x2.toNat_lt
  have h3 := a.x3.toNat_lt
  unfold Ip.num
  omega
theorem ip_num_of {n : Nat} (h : n < 4294967296) : (ipOf n).num = n := by
  unfold ipOf Ip.num
  simp only [UInt8.toNat_ofNat']
  omega
theorem ip_of_num (a : Ip) : ipOf a.num = a := by
  obtain ⟨x0, x1, x2, x3⟩ := a
  have h0 := x0.toNat_lt
  have h1 := x1.toNat_lt
  have h2 := x2.toNat_lt
  have h3 := x3.toNat_lt
  unfold ipOf Ip.num
  congr 1
  all_goals
    refine UInt8.toNat_inj.1 ?_
    rw [UInt8.toNat_ofNat']
    dsimp only
    omega
theorem ip_inj {a b : Ip} (h : a.num = b.num) : a = b := by rw [← ip_of_num a, ← ip_of_num b, h]
theorem ip_eq_iff (a b : Ip) : a = b ↔ a.num = b.num := ⟨fun h => by rw [h], ip_inj⟩
/-- noughts behind the first bits -/
def maskN (n b : Nat) : Nat := n / 2 ^ (32 - b) * 2 ^ (32 - b)
def maskX (a : Ip) (b : Nat) : Ip := ipOf (maskN a.num b)
theorem maskN_le (n b : Nat) : maskN n b ≤ n := Nat.div_mul_le_self _ _
theorem mask_num (a : Ip) (b : Nat) : (maskX a b).num = maskN a.num b := ip_num_of (Nat.lt_of_le_of_lt (maskN_le _ _) (ip_lt a))
theorem maskN_idem (n b : Nat) : maskN (maskN n b) b = maskN n b := by
  unfold maskN
  rw [Nat.mul_div_cancel _ (Nat.two_pow_pos _)]
theorem mask_idem (a : Ip) (b : Nat) : maskX (maskX a b) b = maskX a b := by
  refine ip_inj ?_
  rw [mask_num, mask_num, maskN_idem]
/-- does an address begin with a net's first bits? -/
def withinX (a n : Ip) (bits : Int) : Bool := decide (0 ≤ bits ∧ bits ≤ 32 ∧ a.num / 2 ^ (32 - bits).toNat = n.num / 2 ^ (32 - bits).toNat)
/-- which route comes first -/
def firstX (a b : Ro) : Bool := decide (b.bits < a.bits ∨ a.bits = b.bits ∧ a.net.num < b.net.num)

/-! ### whether two are one -/
section
variable (xs : Array Value) (off : Nat) (w : World)
theorem part_u8 (v : Value) (h : xs[off]? = some v) : (part 5 xs off).run Try.prog w = .ok v w := by
  have ha : (isAgg 5).run Try.prog w = .ok false w := by kernel_rfl
  unfold part
  simp [Sem.run_bind, ha, h]
theorem part_i64 (v : Value) (h : xs[off]? = some v) : (part 3 xs off).run Try.prog w = .ok v w := by
  have ha : (isAgg 3).run Try.prog w = .ok false w := by kernel_rfl
  unfold part
  simp [Sem.run_bind, ha, h]
theorem part_ip (cs : Array Value) (h : xs.extract off (off + 4) = cs) : (part 26 xs off).run Try.prog w = .ok (.agg cs) w := by
  have ha : ∀ w, (isAgg 26).run Try.prog w = .ok true w := fun w => by kernel_rfl
  have hs : ∀ w, (Go.sizeOf 26).run Try.prog w = .ok 4 w := fun w => by kernel_rfl
  unfold part
  simp [Sem.run_bind, ha, hs, h]
end
theorem eq_u8 (d : Nat) (x y : UInt8) (w : World) : (Op.equalIn (d + 1) 5 (.int .u8 (x.toNat : Int)) (.int .u8 (y.toNat : Int))).run Try.prog w = .ok (x == y) w := by
  rw [run_equalIn_int w d _ .u8 .u8 _ _ Try.underlying5]
  congr 1
  rw [Bool.eq_iff_iff, beq_iff_eq, beq_iff_eq]
  constructor
  · exact fun h => UInt8.toNat_inj.1 (Int.ofNat.inj h)
  · rintro rfl
    rfl
theorem eq_ip (d : Nat) (a b : Ip) (w : World) : (Op.equalIn (d + 2) 26 (.agg (ipA a)) (.agg (ipA b))).run Try.prog w = .ok (decide (a = b)) w := by
  obtain ⟨x0, x1, x2, x3⟩ := a
  obtain ⟨y0, y1, y2, y3⟩ := b
  have hs : ∀ w, (Go.sizeOf 5).run Try.prog w = .ok 1 w := fun w => by kernel_rfl
  have p0 : ∀ (x0 x1 x2 x3 : UInt8) (w : World), (part 5 (ipA ⟨x0, x1, x2, x3⟩) 0).run Try.prog w = .ok (.int .u8 (x0.toNat : Int)) w := fun x0 x1 x2 x3 w => part_u8 _ _ w _ rfl
  have p1 : ∀ (x0 x1 x2 x3 : UInt8) (w : World), (part 5 (ipA ⟨x0, x1, x2, x3⟩) 1).run Try.prog w = .ok (.int .u8 (x1.toNat : Int)) w := fun x0 x1 x2 x3 w => part_u8 _ _ w _ rfl
  have p2 : ∀ (x0 x1 x2 x3 : UInt8) (w : World), (part 5 (ipA ⟨x0, x1, x2, x3⟩) 2).run Try.prog w = .ok (.int .u8 (x2.toNat : Int)) w := fun x0 x1 x2 x3 w => part_u8 _ _ w _ rfl
  have p3 : ∀ (x0 x1 x2 x3 : UInt8) (w : World), (part 5 (ipA ⟨x0, x1, x2, x3⟩) 3).run Try.prog w = .ok (.int .u8 (x3.toNat : Int)) w := fun x0 x1 x2 x3 w => part_u8 _ _ w _ rfl
  rw [show d + 2 = (d + 1) + 1 from rfl, Op.equalIn]
  simp only [Sem.run_bind, run_underlying Try.underlying26, Result.andThen_ok, hs]
  simp only [Std.Legacy.Range.forIn_eq_forIn_range', Std.Legacy.Range.size]
  simp [List.range', p0, p1, p2, p3, eq_u8]
  by_cases h0 : x0 = y0
  all_goals try simp [h0]
  by_cases h1 : x1 = y1
  all_goals try simp [h1]
  by_cases h2 : x2 = y2
  all_goals try simp [h2]
  by_cases h3 : x3 = y3
  all_goals try simp [h3]
theorem ro_net (r : Ro) : (roA r).extract 0 (0 + 4) = ipA r.net := by
  obtain ⟨⟨x0, x1, x2, x3⟩, p, v⟩ := r
  simp [roA, ipA]
theorem ro_via (r : Ro) : (roA r).extract 5 (5 + 4) = ipA r.via := by
  obtain ⟨n, p, ⟨x0, x1, x2, x3⟩⟩ := r
  simp [roA, ipA]
theorem eq_ro (d : Nat) (a b : Ro) (w : World) : (Op.equalIn (d + 3) 28 (.agg (roA a)) (.agg (roA b))).run Try.prog w = .ok (decide (a = b)) w := by
  have hfs : Try.prog.underlying 28 = some (.struct (Try.prog.fieldsOf 28)) := by
    simp only [Program.fieldsOf, Try.underlying28]
  rw [run_equalIn_struct w (d + 2) _ _ _ hfs (by kernel_rfl)]
  simp only [Program.fieldsOf, Try.underlying28]
  obtain ⟨m, p, v⟩ := a
  obtain ⟨m', p', v'⟩ := b
  have r0 := eq_ip d m m'
  have r1 : ∀ w, (Op.equalIn (d + 2) 3 (.int .i64 p) (.int .i64 p')).run Try.prog w = .ok (decide (p = p')) w := fun w => by
    rw [run_equalIn_int w (d + 1) _ .i64 .i64 _ _ Try.underlying3]
    congr 1
  have r2 := eq_ip d v v'
  have pa0 := fun w => part_ip (roA ⟨m, p, v⟩) 0 w (ipA m) (ro_net _)
  have pb0 := fun w => part_ip (roA ⟨m', p', v'⟩) 0 w (ipA m') (ro_net _)
  have pa1 := fun w => part_i64 (roA ⟨m, p, v⟩) 4 w _ (roA_bits _)
  have pb1 := fun w => part_i64 (roA ⟨m', p', v'⟩) 4 w _ (roA_bits _)
  have pa2 := fun w => part_ip (roA ⟨m, p, v⟩) 5 w (ipA v) (ro_via _)
  have pb2 := fun w => part_ip (roA ⟨m', p', v'⟩) 5 w (ipA v') (ro_via _)
  by_cases hm : m = m'
  · have e0 : decide (m = m') = true := decide_eq_true hm
    rw [e0] at r0
    by_cases hp : p = p'
    · have e1 : decide (p = p') = true := decide_eq_true hp
      rw [e1] at r1
      by_cases hv : v = v'
      · have e2 : decide (v = v') = true := decide_eq_true hv
        rw [e2] at r2
        simp [Op.eqFields, pa0, pb0, pa1, pb1, pa2, pb2, r0, r1, r2]
        exact ⟨hm, hp, hv⟩
      · have e2 : decide (v = v') = false := decide_eq_false hv
        rw [e2] at r2
        simp [Op.eqFields, pa0, pb0, pa1, pb1, pa2, pb2, r0, r1, r2]
        exact fun _ _ => hv
    · have e1 : decide (p = p') = false := decide_eq_false hp
      rw [e1] at r1
      simp [Op.eqFields, pa0, pb0, pa1, pb1, r0, r1]
      exact fun _ h => absurd h hp
  · have e0 : decide (m = m') = false := decide_eq_false hm
    rw [e0] at r0
    simp [Op.eqFields, pa0, pb0, r0]
    exact fun h => absurd h hm
end Go.Proofs.Ytfifigokglmjlaa
