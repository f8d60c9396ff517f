/-
  Frames as plain data, and what a frame's value reads as: the plain mathematics of ether.Build and ether.Parse. No program's walk, no condition.
-/
import Derived.Test.YtjgdmkmfnkaoaaaConcat
import Derived.Test.YtjgdmkmfnkaoaaaPut
import Derived.Test.YtjgdmkmfnkaoaaaGet
import Derived.Laws.Rows
import Derived.Laws.ResultCell
import Derived.Deep.MidRow
namespace Go.Proofs.Ytjgdmkmfnkaoaaa.E
open Go.RowKit

structure Fr where
  d : List UInt8
  s : List UInt8
  t : Nat
  b : List UInt8

def Fr.zero : Fr := ⟨[0, 0, 0, 0, 0, 0], [0, 0, 0, 0, 0, 0], 0, []⟩
def Fr.ok (f : Fr) : Prop := f.d.length = 6 ∧ f.s.length = 6 ∧ f.t < 65536
/-- a frame's bytes -/
def Fr.bytes (f : Fr) : List UInt8 := f.d ++ f.s ++ putL f.t 2 ++ f.b
/-- what Build answers -/
def buildS (f : Fr) : List UInt8 × Int := if 200 < f.b.length then ([], 4) else (f.bytes, 0)
/-- the frame of bytes -/
def frOf (l : List UInt8) : Fr := ⟨l.take 6, (l.drop 6).take 6, getV ((l.drop 12).take 2), l.drop 14⟩
/-- what Parse answers -/
def parseS (l : List UInt8) : Fr × Int := if 214 < l.length then (Fr.zero, 4) else if l.length < 14 then (Fr.zero, 6) else (frOf l, 0)
/-- are two frames one? -/
def frEq (f g : Fr) : Bool := decide (f.d = g.d ∧ f.s = g.s ∧ f.t = g.t ∧ f.b = g.b)

theorem Fr.bytes_length {f : Fr} (h : f.ok) : f.bytes.length = 14 + f.b.length := by
  obtain ⟨h1, h2, _⟩ := h
  simp [Fr.bytes, putL_length, h1, h2]
  omega
theorem frOf_bytes {f : Fr} (h : f.ok) : frOf f.bytes = f := by
  obtain ⟨d, s, t, b⟩ := f
  obtain ⟨h1, h2, h3⟩ := h
  simp only at h1 h2 h3
  have hp := putL_length t 2
  have e1 : (d ++ s ++ putL t 2 ++ b).take 6 = d := by
    rw [List.append_assoc, List.append_assoc, List.take_append_of_le_length (by omega), List.take_of_length_le (by omega)]
  have e2 : (d ++ s ++ putL t 2 ++ b).drop 6 = s ++ putL t 2 ++ b := by
    rw [List.append_assoc, List.append_assoc, List.append_assoc, ← h1, List.drop_left]
  have e3 : (d ++ s ++ putL t 2 ++ b).drop 12 = putL t 2 ++ b := by
    rw [show 12 = (d ++ s).length from by simp [h1, h2], List.append_assoc (d ++ s), List.drop_left]
  have e4 : (d ++ s ++ putL t 2 ++ b).drop 14 = b := by
    rw [show 14 = (d ++ s ++ putL t 2).length from by simp [h1, h2, hp], List.drop_left]
  unfold frOf
  simp only [Fr.bytes]
  rw [e1, e2, e3, e4, List.append_assoc s, List.take_append_of_le_length (by omega), List.take_of_length_le (by omega), List.take_append_of_le_length (by omega), List.take_of_length_le (by omega), getV_putL, Nat.mod_eq_of_lt (by omega)]
theorem put_get2 (l : List UInt8) (h : l.length = 2) : putL (getV l) 2 = l := by
  match l, h with
  | [x, y], _ =>
    have hx := x.toNat_lt
    have hy := y.toNat_lt
    have e : getV [x, y] = x.toNat * 256 + y.toNat := by simp [getV]
    rw [e]
    simp only [putL]
    have e1 : (x.toNat * 256 + y.toNat) / 2 ^ (8 * 1) = x.toNat := by omega
    have e2 : (x.toNat * 256 + y.toNat) / 2 ^ (8 * 0) = x.toNat * 256 + y.toNat := by omega
    rw [e1, e2, UInt8.ofNat_toNat]
    congr 1
    congr 1
    apply UInt8.toNat_inj.1
    rw [UInt8.toNat_ofNat']
    omega
theorem bytes_frOf {l : List UInt8} (h : 14 ≤ l.length) : (frOf l).bytes = l := by
  unfold frOf Fr.bytes
  simp only
  rw [put_get2 _ (by rw [List.length_take, List.length_drop]; omega)]
  have e1 : l.drop 12 = (l.drop 12).take 2 ++ l.drop 14 := by
    have := (List.take_append_drop 2 (l.drop 12)).symm
    rwa [List.drop_drop] at this
  have e2 : l.drop 6 = (l.drop 6).take 6 ++ l.drop 12 := by
    have := (List.take_append_drop 6 (l.drop 6)).symm
    rwa [List.drop_drop] at this
  rw [List.append_assoc, ← e1, List.append_assoc, ← e2, List.take_append_drop]
theorem frOf_ok {l : List UInt8} (h : 14 ≤ l.length) : (frOf l).ok := by
  refine ⟨by simp [frOf]; omega, by simp [frOf]; omega, ?_⟩
  have := getV_lt ((l.drop 12).take 2)
  rw [show ((l.drop 12).take 2).length = 2 from by rw [List.length_take, List.length_drop]; omega] at this
  exact this
theorem parse_ok (l : List UInt8) : (parseS l).1.ok := by
  unfold parseS
  split
  · exact ⟨rfl, rfl, by decide⟩
  · split
    · exact ⟨rfl, rfl, by decide⟩
    · exact frOf_ok (by omega)
/-- what is built is parsed -/
theorem parse_build {f : Fr} (h : f.ok) (hb : ¬ 200 < f.b.length) : parseS (buildS f).1 = (f, 0) := by
  unfold buildS
  rw [if_neg hb]
  have hl := Fr.bytes_length h
  unfold parseS
  rw [if_neg (by simp only; omega), if_neg (by simp only; omega), frOf_bytes h]
theorem put_two {t : Nat} (h : t < 65536) : putS t 2 = (putL t 2, 0) := by
  unfold putS
  rw [if_neg (by omega), if_neg (by show ¬ 2 ^ (8 * 2) ≤ t; omega)]
  rfl
theorem frEq_self (f : Fr) : frEq f f = true := by simp [frEq]
theorem frEq_iff (f g : Fr) : frEq f g = true ↔ f = g := by
  obtain ⟨d, s, t, b⟩ := f
  obtain ⟨d', s', t', b'⟩ := g
  simp [frEq]
/-- unlike frames have unlike bytes -/
theorem bytes_inj {f g : Fr} (hf : f.ok) (hg : g.ok) (h : f.bytes = g.bytes) : f = g := by
  rw [← frOf_bytes hf, ← frOf_bytes hg, h]

/-- a frame's cells, the body as v -/
def frC (f : Fr) (v : Value) : List Value := cells f.d ++ cells f.s ++ [.int .u16 f.t, v]
/-- cells that read as a frame -/
def FrV (w : World) (lo hi : Nat) (cs : Array Value) (f : Fr) : Prop :=
  ∃ A c, cs = (frC f (.slice A f.b.length c)).toArray ∧ f.ok ∧ Rd w lo hi A (cells f.b) ∧ f.b.length ≤ c ∧ c ≤ maxLen ∧ (A = none → c = 0)
theorem FrV.below {w w' : World} {lo hi B : Nat} {cs : Array Value} {f : Fr} (h : FrV w lo hi cs f) (hb : Below B w w') (hB : hi ≤ B) : FrV w' lo hi cs f := by
  obtain ⟨A, c, e, h1, h2, h3⟩ := h
  exact ⟨A, c, e, h1, h2.below hb hB, h3⟩
theorem FrV.wide {w : World} {lo hi lo' hi' : Nat} {cs : Array Value} {f : Fr} (h : FrV w lo hi cs f) (h1 : lo' ≤ lo) (h2 : hi ≤ hi') : FrV w lo' hi' cs f := by
  obtain ⟨A, c, e, h3, h4, h5⟩ := h
  exact ⟨A, c, e, h3, h4.wide h1 h2, h5⟩
theorem FrV.size {w : World} {lo hi : Nat} {cs : Array Value} {f : Fr} (h : FrV w lo hi cs f) : cs.size = 14 := by
  obtain ⟨A, c, rfl, ⟨h1, h2, _⟩, _⟩ := h
  simp [frC, cells_length, h1, h2]

theorem fourteen (l : List UInt8) (h : 14 ≤ l.length) : ∃ x0 x1 x2 x3 x4 x5 y0 y1 y2 y3 y4 y5 z0 z1 b, l = x0 :: x1 :: x2 :: x3 :: x4 :: x5 :: y0 :: y1 :: y2 :: y3 :: y4 :: y5 :: z0 :: z1 :: b :=
  match l, h with
  | x0 :: x1 :: x2 :: x3 :: x4 :: x5 :: y0 :: y1 :: y2 :: y3 :: y4 :: y5 :: z0 :: z1 :: b, _ => ⟨x0, x1, x2, x3, x4, x5, y0, y1, y2, y3, y4, y5, z0, z1, b, rfl⟩
theorem six_of (l : List UInt8) (h : l.length = 6) : ∃ x0 x1 x2 x3 x4 x5, l = [x0, x1, x2, x3, x4, x5] :=
  match l, h with
  | [x0, x1, x2, x3, x4, x5], _ => ⟨x0, x1, x2, x3, x4, x5, rfl⟩
theorem four_of (l : List UInt8) (h : l.length = 4) : ∃ x0 x1 x2 x3, l = [x0, x1, x2, x3] :=
  match l, h with
  | [x0, x1, x2, x3], _ => ⟨x0, x1, x2, x3, rfl⟩

/-- a piece of a block as a slice's cells -/
theorem rd_mid {w : World} {b o : Nat} {cs : Array Value} {t : TypeId} {fr : Nat × Nat} {xs : List Value} (hg : w.heap[b]? = some (.cells cs t fr)) (h : ∀ k u, xs[k]? = some u → cs[o + k]? = some u) :
    Rd w b (b + 1) (some ⟨b, o, none⟩) xs := by
  intro k u hu
  refine ⟨_, rfl, Nat.le_refl _, Nat.lt_succ_self _, ?_⟩
  have e : ((⟨b, o, none⟩ : Addr).add k) = ⟨b, o + k, none⟩ := by
    unfold Addr.add
    by_cases hk : k = 0 <;> simp [hk]
  rw [e, cell_of_row _ _ _ cs t fr hg]
  exact h k u hu

theorem row_lt {w : World} {b : Nat} {o : Obj} (h : w.heap[b]? = some o) : b < w.heap.size := (Array.getElem?_eq_some_iff.1 h).1
theorem old_alloc {w : World} {b : Nat} {o : Obj} (h : w.heap[b]? = some o) (o2 : Obj) : (w.alloc o2).heap[b]? = some o := (Below.heap_alloc _ _ _ (row_lt h)).trans h

/-- what a function leaves that hands back new bytes of the call's own and an error -/
def OwnPost (w : World) (r : List UInt8 × Int) (e : Ending) (w' : World) : Prop :=
  ∃ A c, e = .returned (.tuple #[.slice A r.1.length c, .int .i64 r.2]) ∧ OwnB w' w.heap.size (.slice A r.1.length c) r.1 ∧ Below w.heap.size w w'
theorem own_none {w w' : World} {r : List UInt8 × Int} {z : Int} (h : r = ([], z)) (hb : Below w.heap.size w w') : OwnPost w r (.returned (.tuple #[.slice none 0 0, .int .i64 z])) w' := by
  subst h
  exact ⟨none, 0, rfl, World.ownsRow_nil _ _ _ _, hb⟩
/-- what Parse leaves -/
def ParsePost (w : World) (r : Fr × Int) (e : Ending) (w' : World) : Prop :=
  ∃ cs, e = .returned (.tuple #[.agg cs, .int .i64 r.2]) ∧ FrV w' w.heap.size w'.heap.size cs r.1 ∧ Below w.heap.size w w'

theorem ret_row {P : Program} {fn : Func} {R : Ending → World → Prop} {a : Act} {w : World} {p u : Tmp} {ty : TypeId} {g : Nat} {cs : Array Value} (h : fn.results = #[.cell p ty, .tmp u]) (hp : a.tmps.getD p undef = .pointer (some ⟨g, 0, none⟩))
    (hl : (loadVar ty ⟨g, 0, none⟩).run P w = .ok (.agg cs) w) (hdf : a.defers = []) (hR : R (.returned (.tuple #[.agg cs, a.tmps.getD u undef])) w) : bodyPost P fn R .ret a w := by
  refine bodyPost_ret (v := .tuple #[.agg cs, a.tmps.getD u undef]) ?_ hdf hR
  rw [results_cell_tmp h, hp]
  simp only [asAddr, Sem.run_pure, Result.andThen]
  rw [hl]
theorem load_fr {w : World} {g : Nat} {t : TypeId} {cs : Array Value} (hg : w.heap[g]? = some (.cells cs t (0, 0))) (hs : cs.size = 14) : (loadVar 67 ⟨g, 0, none⟩).run Try.prog w = .ok (.agg cs) w :=
  run_loadVar_row w g t 67 cs (0, 0) _ hg Try.underlying67 rfl (by rw [hs]; kernel_rfl)
theorem below_setRow {B : Nat} {a w : World} (h : Below B a w) {g : Nat} (hg : B ≤ g) (cs : Array Value) : Below B a (w.setRow g cs) :=
  h.trans ⟨rfl, rfl, rfl, by simp, fun k hk => setRow_other w g k cs (by omega)⟩

theorem zero_frV (w : World) (lo hi : Nat) : FrV w lo hi #[.int .u8 0, .int .u8 0, .int .u8 0, .int .u8 0, .int .u8 0, .int .u8 0, .int .u8 0, .int .u8 0, .int .u8 0, .int .u8 0, .int .u8 0, .int .u8 0, .int .u16 0, .slice none 0 0] Fr.zero :=
  ⟨none, 0, rfl, ⟨rfl, rfl, by decide⟩, Rd.nil, Nat.le_refl _, Nat.zero_le _, fun _ => rfl⟩
end Go.Proofs.Ytjgdmkmfnkaoaaa.E
