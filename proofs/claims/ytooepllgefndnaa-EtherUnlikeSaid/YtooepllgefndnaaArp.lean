/-
  Arps as plain data, and what an Arp's value reads as: the plain mathematics of ether.BuildArp and ether.ParseArp. No program's walk, no condition.
-/
import Derived.Test.YtooepllgefndnaaFr
namespace Go.Proofs.Ytooepllgefndnaa
open Go.RowKit

structure Ar where
  o : Int
  m : List UInt8
  i : List UInt8
  p : List UInt8
  j : List UInt8

def Ar.zero : Ar := ⟨0, [0, 0, 0, 0, 0, 0], [0, 0, 0, 0], [0, 0, 0, 0, 0, 0], [0, 0, 0, 0]⟩
def Ar.ok (a : Ar) : Prop := a.m.length = 6 ∧ a.i.length = 4 ∧ a.p.length = 6 ∧ a.j.length = 4
def headB : List UInt8 := [0, 1, 8, 0, 6, 4, 0]
/-- may an Arp do this? -/
def knownB (o : Int) : Bool := decide (o = 1 ∨ o = 2)
/-- an Arp's bytes -/
def Ar.bytes (a : Ar) : List UInt8 := headB ++ [UInt8.ofNat a.o.toNat] ++ a.m ++ a.i ++ a.p ++ a.j
/-- what BuildArp answers -/
def buildA (a : Ar) : List UInt8 × Int := if knownB a.o = true then (a.bytes, 0) else ([], 1)
/-- the Arp of bytes -/
def arOf (l : List UInt8) : Ar := ⟨((l.drop 7).headD 0).toNat, (l.drop 8).take 6, (l.drop 14).take 4, (l.drop 18).take 6, (l.drop 24).take 4⟩
/-- what ParseArp answers -/
def parseA (l : List UInt8) : Ar × Int := if l.length < 28 then (Ar.zero, 6) else if l.take 7 = headB ∧ knownB (arOf l).o = true then (arOf l, 0) else (Ar.zero, 7)
/-- are two Arps one? -/
def arEq (a b : Ar) : Bool := decide (a.o = b.o ∧ a.m = b.m ∧ a.i = b.i ∧ a.p = b.p ∧ a.j = b.j)
theorem arEq_self (a : Ar) : arEq a a = true := by simp [arEq]
theorem arEq_iff (a b : Ar) : arEq a b = true ↔ a = b := by
  obtain ⟨o, m, i, p, j⟩ := a
  obtain ⟨o', m', i', p', j'⟩ := b
  simp [arEq]

theorem known_cases {o : Int} (h : knownB o = true) : o = 1 ∨ o = 2 := of_decide_eq_true h
theorem byte_op {o : Int} (h : knownB o = true) : ((UInt8.ofNat o.toNat).toNat : Int) = o := by
  rcases known_cases h with rfl | rfl <;> rfl
theorem Ar.bytes_length {a : Ar} (h : a.ok) : a.bytes.length = 28 := by
  obtain ⟨h1, h2, h3, h4⟩ := h
  simp [Ar.bytes, headB, h1, h2, h3, h4]
theorem build_short {a : Ar} (h : a.ok) : (buildA a).1.length ≤ 28 := by
  unfold buildA
  split
  · exact Nat.le_of_eq (Ar.bytes_length h)
  · exact Nat.zero_le _
theorem twentyeight (l : List UInt8) (h : 28 ≤ l.length) : ∃ k0 k1 k2 k3 k4 k5 k6 o x0 x1 x2 x3 x4 x5 y0 y1 y2 y3 u0 u1 u2 u3 u4 u5 v0 v1 v2 v3 b, l = k0 :: k1 :: k2 :: k3 :: k4 :: k5 :: k6 :: o :: x0 :: x1 :: x2 :: x3 :: x4 :: x5 :: y0 :: y1 :: y2 :: y3 :: u0 :: u1 :: u2 :: u3 :: u4 :: u5 :: v0 :: v1 :: v2 :: v3 :: b := by
  obtain ⟨k0, k1, k2, k3, k4, k5, k6, o, x0, x1, x2, x3, x4, x5, r, rfl⟩ := fourteen l (by omega)
  obtain ⟨y0, y1, y2, y3, u0, u1, u2, u3, u4, u5, v0, v1, v2, v3, b, rfl⟩ := fourteen r (by simp at h; omega)
  exact ⟨k0, k1, k2, k3, k4, k5, k6, o, x0, x1, x2, x3, x4, x5, y0, y1, y2, y3, u0, u1, u2, u3, u4, u5, v0, v1, v2, v3, b, rfl⟩
/-- the Arp of an Arp's bytes, whatever stands behind -/
theorem arOf_bytes {a : Ar} (h : a.ok) (hk : knownB a.o = true) (more : List UInt8) : arOf (a.bytes ++ more) = a ∧ (a.bytes ++ more).take 7 = headB := by
  obtain ⟨o, m, i, p, j⟩ := a
  obtain ⟨h1, h2, h3, h4⟩ := h
  simp only at h1 h2 h3 h4 hk
  obtain ⟨x0, x1, x2, x3, x4, x5, rfl⟩ := six_of m h1
  obtain ⟨y0, y1, y2, y3, rfl⟩ := four_of i h2
  obtain ⟨u0, u1, u2, u3, u4, u5, rfl⟩ := six_of p h3
  obtain ⟨v0, v1, v2, v3, rfl⟩ := four_of j h4
  refine ⟨?_, rfl⟩
  have hb := byte_op hk
  unfold arOf
  simp only [Ar.bytes, headB, List.cons_append, List.nil_append, List.drop_succ_cons, List.drop_zero, List.headD_cons, List.take_succ_cons, List.take_zero, hb]
theorem parse_bytes {a : Ar} (h : a.ok) (hk : knownB a.o = true) (more : List UInt8) : parseA (a.bytes ++ more) = (a, 0) := by
  obtain ⟨e1, e2⟩ := arOf_bytes h hk more
  unfold parseA
  rw [if_neg (by rw [List.length_append, Ar.bytes_length h]; omega), e1, if_pos ⟨e2, hk⟩]
/-- the first bytes of an Arp are that Arp's bytes -/
theorem bytes_arOf {l : List UInt8} (h : 28 ≤ l.length) (h7 : l.take 7 = headB) : (arOf l).bytes = l.take 28 := by
  obtain ⟨k0, k1, k2, k3, k4, k5, k6, o, x0, x1, x2, x3, x4, x5, y0, y1, y2, y3, u0, u1, u2, u3, u4, u5, v0, v1, v2, v3, b, rfl⟩ := twentyeight l h
  simp only [List.take_succ_cons, List.take_zero] at h7
  unfold arOf Ar.bytes
  simp only [List.drop_succ_cons, List.drop_zero, List.headD_cons, List.take_succ_cons, List.take_zero, Int.toNat_natCast, UInt8.ofNat_toNat, ← h7, List.cons_append, List.nil_append]
theorem arOf_ok {l : List UInt8} (h : 28 ≤ l.length) : (arOf l).ok := by
  refine ⟨?_, ?_, ?_, ?_⟩ <;> simp [arOf] <;> omega
theorem zero_ok : Ar.zero.ok := ⟨rfl, rfl, rfl, rfl⟩
theorem parseA_ok (l : List UInt8) : (parseA l).1.ok := by
  unfold parseA
  split
  · exact zero_ok
  · split
    · exact arOf_ok (by omega)
    · exact zero_ok
theorem abytes_inj {a b : Ar} (ha : a.ok) (hb : b.ok) (ka : knownB a.o = true) (kb : knownB b.o = true) (h : a.bytes = b.bytes) : a = b := by
  have h1 := (arOf_bytes ha ka []).1
  have h2 := (arOf_bytes hb kb []).1
  rw [← h1, ← h2, h]

/-- an Arp's cells -/
def arC (a : Ar) : List Value := [.int .i64 a.o] ++ cells a.m ++ cells a.i ++ cells a.p ++ cells a.j
/-- cells that read as an Arp -/
def ArV (cs : Array Value) (a : Ar) : Prop := cs = (arC a).toArray ∧ a.ok
theorem ArV.size {cs : Array Value} {a : Ar} (h : ArV cs a) : cs.size = 21 := by
  obtain ⟨rfl, h1, h2, h3, h4⟩ := h
  simp [arC, cells_length, h1, h2, h3, h4]
/-- what ParseArp leaves -/
def ArpPost (w : World) (r : Ar × Int) (e : Ending) (w' : World) : Prop :=
  ∃ cs, e = .returned (.tuple #[.agg cs, .int .i64 r.2]) ∧ ArV cs r.1 ∧ Below w.heap.size w w'
theorem load_ar {w : World} {g : Nat} {t : TypeId} {cs : Array Value} (hg : w.heap[g]? = some (.cells cs t (0, 0))) (hs : cs.size = 21) : (loadVar 44 ⟨g, 0, none⟩).run Try.prog w = .ok (.agg cs) w :=
  run_loadVar_row w g t 44 cs (0, 0) _ hg Try.underlying44 rfl (by rw [hs]; kernel_rfl)
end Go.Proofs.Ytooepllgefndnaa
