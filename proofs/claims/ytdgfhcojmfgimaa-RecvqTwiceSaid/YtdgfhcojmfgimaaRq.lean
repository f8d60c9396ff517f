/-
  What came of the other side, as plain data: the document's numbers of bytes (Rx), the code's pieces (Rq), one of the other; what a piece that comes makes of it. No condition.
-/
import Derived.Test.YtdgfhcojmfgimaaDat
import Derived.Test.YtdgfhcojmfgimaaSlp
import Derived.Test.YtdgfhcojmfgimaaTwo
import Derived.Test.YtdgfhcojmfgimaaSqR
namespace Go.Proofs.Ytdgfhcojmfgimaa
open Go.RowKit

/-- a piece -/
structure Pc where
  seq : Int
  data : List UInt8
/-- the code's -/
structure Rq where
  next : Int
  data : List UInt8
  ahead : List Pc
  known : Bool
  fin : Int
  done : Bool
/-- the document's -/
structure Rx where
  next : Int
  data : List UInt8
  got : List Int
  fin : Int
  done : Bool
def pcD (p : Pc) : List Dat := [.val (.int .u32 p.seq), bytesD p.data]
def rqD (q : Rq) : List Dat := [.val (.int .u32 q.next), bytesD q.data, rowsD 2 pcD q.ahead, .val (.bool q.known), .val (.int .u32 q.fin), .val (.bool q.done)]
def intA (z : Int) : Array Value := #[.int .i64 z]
theorem intE : El intA 1 := ⟨fun _ => rfl, fun a => by simp [intA, Value.oneCell']⟩
def intsV (l : List Int) : List Value := l.map fun z => .int .i64 z
theorem int_rows (l : List Int) : rowsOf intA l = intsV l := by
  unfold rowsOf intsV
  induction l with
  | nil => rfl
  | cons b l ih => rw [List.flatMap_cons, ih]; rfl
def intsD (l : List Int) : Dat := rowsD 1 (fun z => (intA z).toList.map .val) l
theorem rv_ints {w : World} {S : Nat → Prop} {v : Value} {l : List Int} : Rv w S v (intsD l) ↔ ∃ A c, v = .slice A l.length c ∧ RdS w S A (intsV l) ∧ (A = none → c = 0) ∧ l.length ≤ c ∧ c ≤ maxLen := by
  rw [← int_rows]
  exact rv_plain intE
theorem intsV_length (l : List Int) : (intsV l).length = l.length := by simp [intsV]
theorem intsV_get {l : List Int} {i : Nat} {z : Int} (h : l[i]? = some z) : (intsV l)[i]? = some (.int .i64 z) := by simp [intsV, h]
theorem intsV_append (l m : List Int) : intsV (l ++ m) = intsV l ++ intsV m := by simp [intsV]
theorem intsV_ones (l : List Int) : ∀ u ∈ intsV l, u.oneCell' = true := by
  intro u hu
  simp [intsV] at hu
  obtain ⟨_, _, rfl⟩ := hu
  rfl
theorem intsV_drop (l : List Int) (k : Nat) : (intsV l).drop k = intsV (l.drop k) := by simp [intsV, List.map_drop]
def rxD (x : Rx) : List Dat := [.val (.int .u32 x.next), .val (txtV x.data), intsD x.got, .val (.int .i64 x.fin), .val (.bool x.done)]

/-! ### the document's answers -/
def winX (x : Rx) : Int := 256 - x.data.length
/-- pieces that don't begin at the front -/
def runsN : List Int → Nat
  | a :: b :: l => (if 0 ≤ b ∧ a < 0 then 1 else 0) + runsN (b :: l)
  | _ => 0
def byteOf (z : Int) : UInt8 := UInt8.ofNat z.toNat
def frontL (l : List Int) : List UInt8 := (l.takeWhile (fun z => decide (0 ≤ z))).map byteOf
def beyondX (l : List Int) (e : Int) : Bool := (l.drop e.toNat).any (fun z => decide (0 ≤ z))
def finX (x : Rx) (d : Int) (n : Nat) (e : Bool) : Int :=
  if e = true ∧ x.fin < 0 ∧ 0 ≤ d + n ∧ d + n ≤ winX x ∧ beyondX x.got (d + n) = false then d + n else x.fin
/-- the byte that a number has then -/
def layI (x : Rx) (d : Int) (D : List UInt8) (f : Int) (i : Nat) (c : Int) : Int :=
  if c < 0 ∧ d ≤ i ∧ (i : Int) < d + D.length ∧ (i : Int) < winX x ∧ (f < 0 ∨ (i : Int) < f) then (match D[((i : Int) - d).toNat]? with | some b => (b.toNat : Int) | none => c) else c
def layX (x : Rx) (d : Int) (D : List UInt8) (f : Int) : List Int := x.got.mapIdx (layI x d D f)
def takeX (x : Rx) (g : List Int) (f : Int) : Rx :=
  if frontL g ≠ [] ∨ runsN g ≤ 8 then { x with next := addS x.next (frontL g).length, data := x.data ++ frontL g, got := g.drop (frontL g).length ++ List.replicate (frontL g).length (-1), fin := if 0 ≤ f then f - (frontL g).length else f }
  else { x with fin := f }
def endX (x : Rx) : Rx := if x.fin = 0 then { x with done := true, next := addS x.next 1 } else x
def acceptX (x : Rx) (a : Int) (D : List UInt8) (e : Bool) : Rx :=
  if x.done = true then x else endX (takeX x (layX x (diffS a x.next) D (finX x (diffS a x.next) D.length e)) (finX x (diffS a x.next) D.length e))
def newX (n : Int) : Rx := ⟨n, [], List.replicate 256 (-1), -1, false⟩
def cutX (x : Rx) (n : Int) : Nat := (max 0 (min n x.data.length)).toNat
def readX (x : Rx) (n : Int) : Rx := { x with data := x.data.drop (cutX x n) }

/-! ### the code's pieces -/
/-- the runs of what came, from a place on -/
def runsL : Nat → List Int → List (Nat × List UInt8)
  | _, [] => []
  | i, c :: l => if c < 0 then runsL (i + 1) l else match runsL (i + 1) l with
    | (j, d) :: r => if j = i + 1 then (i, byteOf c :: d) :: r else (i, [byteOf c]) :: (j, d) :: r
    | [] => [(i, [byteOf c])]
def conc (x : Rx) : Rq := ⟨x.next, x.data, (runsL 0 x.got).map (fun p => ⟨addS x.next p.1, p.2⟩), decide (0 ≤ x.fin), if x.done = true then addS x.next (-1) else if 0 ≤ x.fin then addS x.next x.fin else 0, x.done⟩
/-- what may be -/
structure OkX (x : Rx) : Prop where
  next : U32 x.next
  data : x.data.length ≤ 256
  got : x.got.length = 256
  bytes : ∀ c ∈ x.got, -1 ≤ c ∧ c ≤ 255
  win : ∀ (i : Nat) c, x.got[i]? = some c → 0 ≤ c → (i : Int) < winX x
  fin : x.fin = -1 ∨ 0 ≤ x.fin ∧ x.fin ≤ winX x
  ahead : 0 ≤ x.fin → ∀ (i : Nat) c, x.got[i]? = some c → 0 ≤ c → (i : Int) < x.fin
  runs : runsN x.got ≤ 8
  front : ∀ c, x.got[0]? = some c → c < 0
  done : x.done = true ↔ x.fin = 0
end Go.Proofs.Ytdgfhcojmfgimaa
