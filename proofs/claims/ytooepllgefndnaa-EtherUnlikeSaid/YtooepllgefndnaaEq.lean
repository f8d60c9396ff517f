/-
  Whether two hosts' addresses, two cards', or two Arps are the same: what '==' answers. No condition.
-/
import Derived.Test.YtooepllgefndnaaAds
import Derived.Laws.StructEq
namespace Go.Proofs.Ytooepllgefndnaa
open Go.RowKit

abbrev ip4 (x0 x1 x2 x3 : UInt8) : Array Value := #[.int .u8 (x0.toNat : Int), .int .u8 (x1.toNat : Int), .int .u8 (x2.toNat : Int), .int .u8 (x3.toNat : Int)]
abbrev mac6 (x0 x1 x2 x3 x4 x5 : UInt8) : Array Value := #[.int .u8 (x0.toNat : Int), .int .u8 (x1.toNat : Int), .int .u8 (x2.toNat : Int), .int .u8 (x3.toNat : Int), .int .u8 (x4.toNat : Int), .int .u8 (x5.toNat : Int)]
theorem part_byte (xs : Array Value) (off : Nat) (v : Value) (h : xs[off]? = some v) (w : World) : (part 5 xs off).run Try.prog w = .ok v w := by
  have ha : (isAgg 5).run Try.prog w = .ok false w := by kernel_rfl
  unfold part
  simp [Sem.run_bind, ha, h]
theorem eq_byte (d : Nat) (x y : UInt8) (w : World) : (Op.equalIn (d + 1) 5 (.int .u8 (x.toNat : Int)) (.int .u8 (y.toNat : Int))).run Try.prog w = .ok (x == y) w := by
  rw [run_equalIn_int w d _ .u8 .u8 _ _ Try.underlying5]
  congr 1
  rw [Bool.eq_iff_iff, beq_iff_eq, beq_iff_eq]
  constructor
  · exact fun h => UInt8.toNat_inj.1 (Int.ofNat.inj h)
  · rintro rfl
    rfl
theorem eq_ip (d : Nat) (x0 x1 x2 x3 y0 y1 y2 y3 : UInt8) (w : World) :
    (Op.equalIn (d + 2) 42 (.agg (ip4 x0 x1 x2 x3)) (.agg (ip4 y0 y1 y2 y3))).run Try.prog w = .ok ((x0 == y0 && (x1 == y1 && (x2 == y2 && x3 == y3)))) w := by
  have hs : ∀ w, (Go.sizeOf 5).run Try.prog w = .ok 1 w := fun w => by kernel_rfl
  have p0 : ∀ (x0 x1 x2 x3 : UInt8) (w : World), (part 5 (ip4 x0 x1 x2 x3) 0).run Try.prog w = .ok (.int .u8 (x0.toNat : Int)) w := fun x0 x1 x2 x3 w => part_byte _ _ _ rfl w
  have p1 : ∀ (x0 x1 x2 x3 : UInt8) (w : World), (part 5 (ip4 x0 x1 x2 x3) 1).run Try.prog w = .ok (.int .u8 (x1.toNat : Int)) w := fun x0 x1 x2 x3 w => part_byte _ _ _ rfl w
  have p2 : ∀ (x0 x1 x2 x3 : UInt8) (w : World), (part 5 (ip4 x0 x1 x2 x3) 2).run Try.prog w = .ok (.int .u8 (x2.toNat : Int)) w := fun x0 x1 x2 x3 w => part_byte _ _ _ rfl w
  have p3 : ∀ (x0 x1 x2 x3 : UInt8) (w : World), (part 5 (ip4 x0 x1 x2 x3) 3).run Try.prog w = .ok (.int .u8 (x3.toNat : Int)) w := fun x0 x1 x2 x3 w => part_byte _ _ _ rfl w
  rw [show d + 2 = (d + 1) + 1 from rfl, Op.equalIn]
  simp only [Sem.run_bind, run_underlying Try.underlying42, Result.andThen_ok, hs]
  simp only [Std.Legacy.Range.forIn_eq_forIn_range', Std.Legacy.Range.size]
  simp [List.range', p0, p1, p2, p3, eq_byte]
  by_cases h0 : x0 = y0
  all_goals try simp [h0]
  by_cases h1 : x1 = y1
  all_goals try simp [h1]
  by_cases h2 : x2 = y2
  all_goals try simp [h2]
  by_cases h3 : x3 = y3
  all_goals try simp [h3]
theorem eq_mac (d : Nat) (x0 x1 x2 x3 x4 x5 y0 y1 y2 y3 y4 y5 : UInt8) (w : World) :
    (Op.equalIn (d + 2) 23 (.agg (mac6 x0 x1 x2 x3 x4 x5)) (.agg (mac6 y0 y1 y2 y3 y4 y5))).run Try.prog w = .ok (x0 == y0 && (x1 == y1 && (x2 == y2 && (x3 == y3 && (x4 == y4 && (x5 == y5)))))) w := by
  have hs : ∀ w, (Go.sizeOf 5).run Try.prog w = .ok 1 w := fun w => by kernel_rfl
  have p0 : ∀ (x0 x1 x2 x3 x4 x5 : UInt8) (w : World), (part 5 (mac6 x0 x1 x2 x3 x4 x5) 0).run Try.prog w = .ok (.int .u8 (x0.toNat : Int)) w := fun x0 x1 x2 x3 x4 x5 w => part_byte _ _ _ rfl w
  have p1 : ∀ (x0 x1 x2 x3 x4 x5 : UInt8) (w : World), (part 5 (mac6 x0 x1 x2 x3 x4 x5) 1).run Try.prog w = .ok (.int .u8 (x1.toNat : Int)) w := fun x0 x1 x2 x3 x4 x5 w => part_byte _ _ _ rfl w
  have p2 : ∀ (x0 x1 x2 x3 x4 x5 : UInt8) (w : World), (part 5 (mac6 x0 x1 x2 x3 x4 x5) 2).run Try.prog w = .ok (.int .u8 (x2.toNat : Int)) w := fun x0 x1 x2 x3 x4 x5 w => part_byte _ _ _ rfl w
  have p3 : ∀ (x0 x1 x2 x3 x4 x5 : UInt8) (w : World), (part 5 (mac6 x0 x1 x2 x3 x4 x5) 3).run Try.prog w = .ok (.int .u8 (x3.toNat : Int)) w := fun x0 x1 x2 x3 x4 x5 w => part_byte _ _ _ rfl w
  have p4 : ∀ (x0 x1 x2 x3 x4 x5 : UInt8) (w : World), (part 5 (mac6 x0 x1 x2 x3 x4 x5) 4).run Try.prog w = .ok (.int .u8 (x4.toNat : Int)) w := fun x0 x1 x2 x3 x4 x5 w => part_byte _ _ _ rfl w
  have p5 : ∀ (x0 x1 x2 x3 x4 x5 : UInt8) (w : World), (part 5 (mac6 x0 x1 x2 x3 x4 x5) 5).run Try.prog w = .ok (.int .u8 (x5.toNat : Int)) w := fun x0 x1 x2 x3 x4 x5 w => part_byte _ _ _ rfl w
  rw [show d + 2 = (d + 1) + 1 from rfl, Op.equalIn]
  simp only [Sem.run_bind, run_underlying Try.underlying23, Result.andThen_ok, hs]
  simp only [Std.Legacy.Range.forIn_eq_forIn_range', Std.Legacy.Range.size]
  simp [List.range', p0, p1, p2, p3, p4, p5, eq_byte]
  by_cases h0 : x0 = y0
  all_goals try simp [h0]
  by_cases h1 : x1 = y1
  all_goals try simp [h1]
  by_cases h2 : x2 = y2
  all_goals try simp [h2]
  by_cases h3 : x3 = y3
  all_goals try simp [h3]
  by_cases h4 : x4 = y4
  all_goals try simp [h4]
  by_cases h5 : x5 = y5
  all_goals try simp [h5]
theorem eqv_mac (d : Nat) (x0 x1 x2 x3 x4 x5 y0 y1 y2 y3 y4 y5 : UInt8) (v : Bool) (h : decide ([x0, x1, x2, x3, x4, x5] = [y0, y1, y2, y3, y4, y5]) = v) (w : World) :
    (Op.equalIn (d + 2) 23 (.agg (mac6 x0 x1 x2 x3 x4 x5)) (.agg (mac6 y0 y1 y2 y3 y4 y5))).run Try.prog w = .ok v w := by
  rw [eq_mac, ← h]
  congr 1
  rw [Bool.eq_iff_iff]
  simp
theorem eqv_ip (d : Nat) (x0 x1 x2 x3 y0 y1 y2 y3 : UInt8) (v : Bool) (h : decide ([x0, x1, x2, x3] = [y0, y1, y2, y3]) = v) (w : World) :
    (Op.equalIn (d + 2) 42 (.agg (ip4 x0 x1 x2 x3)) (.agg (ip4 y0 y1 y2 y3))).run Try.prog w = .ok v w := by
  rw [eq_ip, ← h]
  congr 1
  rw [Bool.eq_iff_iff]
  simp
end Go.Proofs.Ytooepllgefndnaa
