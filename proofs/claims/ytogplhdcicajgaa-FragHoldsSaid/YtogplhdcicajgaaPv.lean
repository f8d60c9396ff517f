/-
  Packets as plain data, and what a packet's value reads as: of no one layer (for seats without ip4's Build and Parse). No condition.
-/
import Derived.Test.YtogplhdcicajgaaRow
import Derived.Test.YtogplhdcicajgaaRely
import Derived.StillTailTactics
import Derived.Laws.ResultCell
import Derived.Lib.AppendZeros
import Derived.IntWalk
namespace Go.Proofs.Ytogplhdcicajgaa
open Go.RowKit

theorem beqT {a b : Int} (h : a = b) : (a == b) = true := by simp [h]
theorem beqF {a b : Int} (h : a ≠ b) : (a == b) = false := by simp [h]
theorem bneT {a b : Int} (h : a ≠ b) : (a != b) = true := by simp [h]
theorem bneF {a b : Int} (h : a = b) : (a != b) = false := by simp [h]

structure Pk where
  id : Nat
  more : Bool
  off : Int
  ttl : UInt8
  proto : UInt8
  src : List UInt8
  dst : List UInt8
  data : List UInt8

def Pk.zero : Pk := ⟨0, false, 0, 0, 0, [0, 0, 0, 0], [0, 0, 0, 0], []⟩
def Pk.ok (p : Pk) : Prop := p.id < 65536 ∧ p.src.length = 4 ∧ p.dst.length = 4
/-- are two packets one? -/
def pkEq (p q : Pk) : Bool := decide (p.id = q.id ∧ p.more = q.more ∧ p.off = q.off ∧ p.ttl = q.ttl ∧ p.proto = q.proto ∧ p.src = q.src ∧ p.dst = q.dst ∧ p.data = q.data)
theorem pkEq_iff (p q : Pk) : pkEq p q = true ↔ p = q := by
  obtain ⟨a1, a2, a3, a4, a5, a6, a7, a8⟩ := p
  obtain ⟨b1, b2, b3, b4, b5, b6, b7, b8⟩ := q
  simp [pkEq]
theorem pkEq_self (p : Pk) : pkEq p p = true := (pkEq_iff p p).2 rfl

theorem four_of (l : List UInt8) (h : l.length = 4) : ∃ x0 x1 x2 x3, l = [x0, x1, x2, x3] :=
  match l, h with
  | [x0, x1, x2, x3], _ => ⟨x0, x1, x2, x3, rfl⟩
/-- a packet's cells, the data as v -/
def pkC (p : Pk) (v : Value) : List Value := .int .u16 p.id :: .bool p.more :: .int .i64 p.off :: .int .u8 (p.ttl.toNat : Int) :: .int .u8 (p.proto.toNat : Int) :: (cells p.src ++ cells p.dst ++ [v])
/-- cells that read as a packet -/
def PkV (w : World) (lo hi : Nat) (cs : Array Value) (p : Pk) : Prop :=
  ∃ A c, cs = (pkC p (.slice A p.data.length c)).toArray ∧ p.ok ∧ (-9223372036854775808 ≤ p.off ∧ p.off ≤ 9223372036854775807) ∧ Rd w lo hi A (cells p.data) ∧ p.data.length ≤ c ∧ c ≤ maxLen ∧ (A = none → c = 0)
theorem PkV.below {w w' : World} {lo hi B : Nat} {cs : Array Value} {p : Pk} (h : PkV w lo hi cs p) (hb : Below B w w') (hB : hi ≤ B) : PkV w' lo hi cs p := by
  obtain ⟨A, c, e, h1, h0, h2, h3⟩ := h
  exact ⟨A, c, e, h1, h0, h2.below hb hB, h3⟩
theorem PkV.wide {w : World} {lo hi lo' hi' : Nat} {cs : Array Value} {p : Pk} (h : PkV w lo hi cs p) (h1 : lo' ≤ lo) (h2 : hi ≤ hi') : PkV w lo' hi' cs p := by
  obtain ⟨A, c, e, h3, h0, h4, h5⟩ := h
  exact ⟨A, c, e, h3, h0, h4.wide h1 h2, h5⟩
theorem pkC_size {p : Pk} (h : p.ok) (v : Value) : (pkC p v).toArray.size = 14 := by
  obtain ⟨_, h1, h2⟩ := h
  simp [pkC, cells_length, h1, h2]
theorem PkV.size {w : World} {lo hi : Nat} {cs : Array Value} {p : Pk} (h : PkV w lo hi cs p) : cs.size = 14 := by
  obtain ⟨A, c, rfl, h1, _⟩ := h
  exact pkC_size h1 _
theorem pkC_13 {p : Pk} (h : p.ok) (v : Value) : (pkC p v)[13]? = some v := by
  obtain ⟨_, h1, h2⟩ := h
  simp [pkC, cells_length, h1, h2]
theorem pkC_src (p : Pk) (v : Value) : ∀ (k : Nat) u, (cells p.src)[k]? = some u → (pkC p v)[5 + k]? = some u := by
  intro k u hu
  have hk := (List.getElem?_eq_some_iff.1 hu).1
  rw [show 5 + k = k + 1 + 1 + 1 + 1 + 1 from by omega]
  simp only [pkC, List.getElem?_cons_succ]
  rw [List.append_assoc, List.getElem?_append_left hk]
  exact hu
theorem pkC_dst {p : Pk} (h : p.ok) (v : Value) : ∀ (k : Nat) u, (cells p.dst)[k]? = some u → (pkC p v)[9 + k]? = some u := by
  intro k u hu
  have hk := (List.getElem?_eq_some_iff.1 hu).1
  have hs : (cells p.src).length = 4 := by rw [cells_length]; exact h.2.1
  rw [show 9 + k = (4 + k) + 1 + 1 + 1 + 1 + 1 from by omega]
  simp only [pkC, List.getElem?_cons_succ]
  rw [List.append_assoc, List.getElem?_append_right (by omega), hs, show 4 + k - 4 = k from by omega, List.getElem?_append_left hk]
  exact hu
theorem zero_pkV (w : World) (lo hi : Nat) : PkV w lo hi #[.int .u16 0, .bool false, .int .i64 0, .int .u8 0, .int .u8 0, .int .u8 0, .int .u8 0, .int .u8 0, .int .u8 0, .int .u8 0, .int .u8 0, .int .u8 0, .int .u8 0, .slice none 0 0] Pk.zero :=
  ⟨none, 0, rfl, ⟨by decide, rfl, rfl⟩, ⟨by decide, by decide⟩, Rd.nil, Nat.le_refl _, Nat.zero_le _, fun _ => rfl⟩

/-- a piece of a block as a slice's cells -/
theorem rd_mid {w : World} {b o : Nat} {cs : Array Value} {t : TypeId} {fr : Nat × Nat} {xs : List Value} (hg : w.heap[b]? = some (.cells cs t fr)) (h : ∀ (k : Nat) u, xs[k]? = some u → cs[o + k]? = some u) :
    Rd w b (b + 1) (some ⟨b, o, none⟩) xs := by
  intro k u hu
  refine ⟨_, rfl, Nat.le_refl _, Nat.lt_succ_self _, ?_⟩
  have e : ((⟨b, o, none⟩ : Addr).add k) = ⟨b, o + k, none⟩ := by
    unfold Addr.add
    by_cases hk : k = 0 <;> simp [hk]
  rw [e, cell_of_row _ _ _ cs t fr hg]
  exact h k u hu
theorem row_lt {w : World} {b : Nat} {o : Obj} (h : w.heap[b]? = some o) : b < w.heap.size := (Array.getElem?_eq_some_iff.1 h).1
theorem old_alloc {w : World} {b : Nat} {o : Obj} (h : w.heap[b]? = some o) (o2 : Obj) : (w.alloc o2).heap[b]? = some o := (Below.heap_alloc _ _ _ (row_lt h)).trans h

theorem size_pk {cs : Array Value} (h : cs.size = 14) : (Try.prog.info? 27).map (·.size) = some cs.size := by
  rw [h]
  kernel_rfl
theorem PkV.one {w : World} {lo hi : Nat} {cs : Array Value} {p : Pk} (h : PkV w lo hi cs p) : cs.all (·.oneCell') = true := by
  obtain ⟨A, c, rfl, _⟩ := h
  refine all_one fun u hu => ?_
  simp only [pkC, List.mem_append, List.mem_cons, List.not_mem_nil, or_false] at hu
  rcases hu with rfl | rfl | rfl | rfl | rfl | (hu | hu) | rfl
  · rfl
  · rfl
  · rfl
  · rfl
  · rfl
  · exact cells_one _ u hu
  · exact cells_one _ u hu
  · rfl
theorem PkV.ok {w : World} {lo hi : Nat} {cs : Array Value} {p : Pk} (h : PkV w lo hi cs p) : p.ok := by
  obtain ⟨A, c, rfl, h, _⟩ := h
  exact h
theorem PkV.alloc {w : World} {lo hi : Nat} {cs : Array Value} {p : Pk} (h : PkV w lo hi cs p) (hB : hi ≤ w.heap.size) (o : Obj) : PkV (w.alloc o) lo hi cs p := by
  obtain ⟨A, c, e, h1, h0, h2, h3⟩ := h
  exact ⟨A, c, e, h1, h0, h2.alloc hB o, h3⟩
/-- a packet's fields among its cells -/
theorem PkV.parts {w : World} {lo hi : Nat} {cs : Array Value} {p : Pk} (h : PkV w lo hi cs p) : ∃ A c, cs[1]? = some (.bool p.more) ∧ cs[3]? = some (.int .u8 (p.ttl.toNat : Int)) ∧ cs[13]? = some (.slice A p.data.length c) ∧ Rd w lo hi A (cells p.data) ∧ p.data.length ≤ c ∧ c ≤ maxLen ∧ (A = none → c = 0) := by
  obtain ⟨A, c, rfl, h1, _, h3⟩ := h
  exact ⟨A, c, rfl, rfl, by rw [List.getElem?_toArray]; exact pkC_13 h1 _, h3⟩
theorem load_pk {w : World} {g : Nat} {t : TypeId} {cs : Array Value} (hg : w.heap[g]? = some (.cells cs t (0, 0))) (hs : cs.size = 14) : (loadVar 27 ⟨g, 0, none⟩).run Try.prog w = .ok (.agg cs) w :=
  run_loadVar_row w g t 27 cs (0, 0) _ hg Try.underlying27 rfl (by rw [hs]; kernel_rfl)
end Go.Proofs.Ytogplhdcicajgaa
