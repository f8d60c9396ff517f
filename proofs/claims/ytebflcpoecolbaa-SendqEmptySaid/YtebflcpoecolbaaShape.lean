/-
  What an argument of any plain type reads as, cell by cell: numbers, bools, strings, arrays, structs and slices, one in another. Of no one layer; no condition.
-/
import Derived.Test.YtebflcpoecolbaaMem
import Derived.OpenShut
import Derived.ChangeArms
import Derived.Deep.Slices
import Derived.SizedLaws
import Derived.WideShapes
namespace Go.Proofs.Ytebflcpoecolbaa
open Go.RowKit Go.ChangeShapes Go.WideShapes Go.Deep

/-- the makes of plain data -/
inductive Sh where
  | num (k : IntKind)
  | bit
  | str
  | non
  | cat (a b : Sh)
  | rep (n : Nat) (a : Sh)
  | sl (a : Sh)

def Sh.size : Sh → Nat
  | .num _ => 1
  | .bit => 1
  | .str => 1
  | .non => 0
  | .cat a b => a.size + b.size
  | .rep n a => n * a.size
  | .sl _ => 1

/-- cells that read as such data -/
def Sh.ok (w : World) : Sh → List Value → Prop
  | .num k, cs => ∃ n, cs = [.int k n] ∧ (Lit.int k n).wf = true
  | .bit, cs => ∃ b, cs = [.bool b]
  | .str, cs => ∃ s : ByteArray, cs = [.string s] ∧ s.size ≤ 140737488351232
  | .non, cs => cs = []
  | .cat a b, cs => ∃ c1 c2, cs = c1 ++ c2 ∧ a.ok w c1 ∧ b.ok w c2
  | .rep n a, cs => cs.length = n * a.size ∧ ∀ i, i < n → a.ok w ((cs.drop (i * a.size)).take a.size)
  | .sl a, cs => cs = [.slice none 0 0] ∨ ∃ ad len cap, cs = [.slice (some ad) len cap] ∧ len ≤ cap ∧ cap ≤ 140737488351232 ∧
      ∀ i, i < len → ∃ c, c.length = a.size ∧ (∀ j u, c[j]? = some u → w.cell? (ad.add (i * a.size + j)) = some u) ∧ a.ok w c

def Sh.fitsF (P : Program) (r : TypeId → Sh → Bool) : Nat → List Field → Sh → Bool
  | _, [], .non => true
  | off, f :: l, .cat a b => f.offset == off && P.cellsOf f.type == a.size && r f.type a && Sh.fitsF P r (off + a.size) l b
  | _, _, _ => false
/-- the type is of that make -/
def Sh.fits (P : Program) : Nat → TypeId → Sh → Bool
  | 0, _, _ => false
  | f + 1, t, s =>
    match P.underlying t, s with
    | some .bool, .bit => true
    | some (.int k), .num k' => decide (k = k')
    | some .string, .str => true
    | some (.slice e), .sl a => P.cellsOf e == a.size && decide (1 ≤ P.bytesOf e) && Sh.fits P f e a
    | some (.array n e), .rep n' a => n == n' && P.cellsOf t == n * a.size && P.cellsOf e == a.size && Sh.fits P f e a
    | some (.struct fs), s => P.cellsOf t == s.size && Sh.fitsF P (Sh.fits P f) 0 fs.toList s
    | _, _ => false

theorem weights_all {H : Type} {P : Program} {e : TypeId} : ∀ {ds : List (DataW H)} {j : Nat} {d : DataW H}, ds[j]? = some d → ∀ n ∈ d.weights P e, n ∈ DataW.weightsAll P e ds
  | d0 :: ds, 0, d, hd, n, hn => by
    simp only [List.getElem?_cons_zero, Option.some.injEq] at hd
    subst hd
    simp only [DataW.weightsAll, List.mem_append]
    exact .inl hn
  | d0 :: ds, j + 1, d, hd, n, hn => by
    simp only [List.getElem?_cons_succ] at hd
    simp only [DataW.weightsAll, List.mem_append]
    exact .inr (weights_all hd n hn)
  | [], _, _, hd, _, _ => by simp at hd

section
variable {H : Type} {enc : TypeId × Value → H} {P : Program} {w : World} {base : Nat} {held : Bool}

theorem fields_ok {f : Nat} (ih : ∀ (t : TypeId) (s : Sh) (fuel : Nat) (cs : List Value) (x : DataW H × List MemPlace), Sh.fits P f t s = true → DataW.trod enc P w base (fun _ => true) held fuel t cs = some x → (∀ n ∈ x.1.weights P t, n ≤ reachBytes) → s.ok w cs)
    (cs : List Value) : ∀ (l : List Field) (off : Nat) (s : Sh), Sh.fitsF P (Sh.fits P f) off l s = true →
      (∀ fd ∈ l, ∃ (fuel : Nat) (x : DataW H × List MemPlace), DataW.trod enc P w base (fun _ => true) held fuel fd.type ((cs.drop fd.offset).take (P.cellsOf fd.type)) = some x ∧ ∀ n ∈ x.1.weights P fd.type, n ≤ reachBytes) →
      s.ok w ((cs.drop off).take s.size) := by
  intro l
  induction l with
  | nil =>
    intro off s hs _
    cases s <;> simp [Sh.fitsF] at hs
    simp [Sh.ok, Sh.size]
  | cons fd r ihl =>
    intro off s hs hx
    cases s <;> simp [Sh.fitsF] at hs
    rename_i a b
    obtain ⟨⟨⟨h1, h2⟩, h3⟩, h4⟩ := hs
    obtain ⟨fuel, x, hf, hw⟩ := hx fd (List.mem_cons_self ..)
    rw [h1, h2] at hf
    refine ⟨(cs.drop off).take a.size, (cs.drop (off + a.size)).take b.size, ?_, ih _ _ _ _ _ h3 hf hw, ihl (off + a.size) b h4 fun fd' h' => hx fd' (List.mem_cons_of_mem _ h')⟩
    rw [show (Sh.cat a b).size = a.size + b.size from rfl, List.take_add, List.drop_drop]

theorem trod_ok : ∀ (f : Nat) (t : TypeId) (s : Sh) (fuel : Nat) (cs : List Value) (x : DataW H × List MemPlace), Sh.fits P f t s = true →
    DataW.trod enc P w base (fun _ => true) held fuel t cs = some x → (∀ n ∈ x.1.weights P t, n ≤ reachBytes) → s.ok w cs := by
  intro f
  induction f with
  | zero => intro t s fuel cs x hs; simp [Sh.fits] at hs
  | succ f ih =>
    intro t s fuel cs x hs hx hw
    unfold Sh.fits at hs
    split at hs
    · rename_i hu
      obtain ⟨b, rfl, _⟩ := DataW.trod_bool hu hx
      exact ⟨b, rfl⟩
    · rename_i k k' hu
      obtain ⟨n, rfl, _, hn⟩ := DataW.trod_int hu hx
      have := of_decide_eq_true hs
      subst this
      exact ⟨n, rfl, hn⟩
    · rename_i hu
      obtain ⟨s, rfl, rfl, hn⟩ := DataW.trod_string hu hx
      have := hw s.data.toList.length (by simp [DataW.weights])
      exact ⟨s, rfl, by simpa [reachBytes] using this⟩
    · rename_i e a hu
      simp at hs
      obtain ⟨⟨h1, h2⟩, h3⟩ := hs
      rcases open_slice hu hx with ⟨h, _⟩ | ⟨ad, len, cap, m, n, D, Pl, rfl, _, hl, hc, hm, rfl, hi⟩
      · exact .inl h
      · rw [if_pos rfl] at hm
        subst hm
        have hb := hw (m * P.bytesOf e) (by simp [DataW.weights, hu, show len + (m - len) = m from by omega])
        have hcap : m ≤ 140737488351232 := by
          have := Nat.le_mul_of_pos_right m h2
          simp only [reachBytes] at hb
          omega
        refine .inr ⟨ad, len, m, rfl, hl, hcap, fun i hil => ?_⟩
        obtain ⟨c, hcs, ht⟩ := hi i (by omega)
        obtain ⟨_, hlen, hat⟩ := World.cells?_some hcs
        refine ⟨c, hlen.trans h1, fun j u hu => ?_, ih _ _ _ _ _ h3 ht fun n hn => ?_⟩
        · have hj := (List.getElem?_eq_some_iff.1 hu).1
          have := hat j (by omega)
          rw [hu, add_twice, h1] at this
          exact this
        · apply hw
          simp [DataW.weights, hu]
          exact .inr (.inl (weights_all (j := i) (by simp [hil]) n hn))
    · rename_i n e n' a hu
      simp at hs
      obtain ⟨⟨⟨h0, h1⟩, h2⟩, h3⟩ := hs
      subst h0
      obtain ⟨xs, m, _, rfl, hlen, hxs, hi⟩ := DataW.trod_array hu hx
      refine ⟨hlen.trans h1, fun i hin => ?_⟩
      have h := hi i hin
      rw [h2, List.getElem?_eq_getElem (by omega)] at h
      refine ih _ _ _ _ _ h3 h fun k hk => hw k ?_
      simp [DataW.weights, hu]
      exact weights_all (j := i) (by rw [List.getElem?_map, List.getElem?_eq_getElem (by omega)]; rfl) k hk
    · rename_i fs hu
      simp at hs
      obtain ⟨h1, h2⟩ := hs
      obtain ⟨xs, m, _, rfl, hlen, hxs, hi⟩ := DataW.trod_struct hu hx
      have h := fields_ok (P := P) (enc := enc) (w := w) (base := base) (held := held) ih cs fs.toList 0 _ h2 fun fd hfd => by
        obtain ⟨i, hil, hif⟩ := List.getElem_of_mem hfd
        have hif' : fs[i]? = some fd := by
          rw [← hif]
          simp at hil
          simp [hil]
        have hfi := hi i fd hif'
        have hil' : i < xs.length := by rw [hxs]; simpa using hil
        rw [List.getElem?_eq_getElem hil'] at hfi
        refine ⟨m, _, hfi, fun k hk => hw k ?_⟩
        simp [DataW.weights, hu]
        refine DataW.weights_mem_each (j := i) (t := fd.type) (d := xs[i].1) ?_ ?_ k hk
        · rw [List.getElem?_map]
          simp [hif']
        · rw [List.getElem?_map, List.getElem?_eq_getElem hil']
          rfl
      rw [List.drop_zero, List.take_of_length_le (by omega)] at h
      exact h
    · cases hs
end

theorem drop_one {cs : List Value} {i : Nat} {u : Value} (h : (cs.drop (i * 1)).take 1 = [u]) : cs[i]? = some u := by
  have h2 := congrArg (fun l => l[0]?) h
  simpa [List.getElem?_take, List.getElem?_drop] using h2
/-- an array of numbers -/
theorem rep_nums {w : World} {k : IntKind} {n : Nat} {cs : List Value} (h : (Sh.rep n (.num k)).ok w cs) : ∃ l : List Int, l.length = n ∧ cs = l.map (Value.int k) ∧ ∀ z ∈ l, (Lit.int k z).wf = true := by
  obtain ⟨h0, h2⟩ := h
  have h1 : cs.length = n := by simpa [Sh.size] using h0
  clear h0
  have h3 : ∀ i, i < n → ∃ z, cs[i]? = some (.int k z) ∧ (Lit.int k z).wf = true := fun i hi => by
    obtain ⟨z, hz, hw⟩ := h2 i hi
    exact ⟨z, drop_one hz, hw⟩
  clear h2
  induction cs generalizing n with
  | nil => exact ⟨[], by simpa using h1, rfl, by simp⟩
  | cons c r ih =>
    obtain ⟨z, hz, hw⟩ := h3 0 (by rw [← h1]; simp)
    obtain ⟨l, hl, hr, hl2⟩ := ih (n := r.length) rfl fun i hi => by
      have := h3 (i + 1) (by rw [← h1]; simp; exact hi)
      simpa using this
    simp at hz
    subst hz
    refine ⟨z :: l, by rw [← h1]; simp [hl], by rw [hr]; rfl, fun y hy => ?_⟩
    rcases List.mem_cons.1 hy with rfl | hy
    · exact hw
    · exact hl2 y hy
/-- an array of bytes -/
theorem rep_bytes {w : World} {n : Nat} {cs : List Value} (h : (Sh.rep n (.num .u8)).ok w cs) : ∃ l : List UInt8, l.length = n ∧ cs = cells l := by
  obtain ⟨zs, h1, h2, h3⟩ := rep_nums h
  obtain ⟨l, rfl⟩ := bytes_of zs h3
  exact ⟨l, by simpa using h1, by rw [h2]; simp [cells]⟩
theorem rep_bytes2 {w : World} {cs : List Value} (h : (Sh.rep 2 (.num .u8)).ok w cs) : ∃ x y : UInt8, cs = cells [x, y] := by
  obtain ⟨l, h1, h2⟩ := rep_bytes h
  match l, h1 with
  | [x, y], _ => exact ⟨x, y, h2⟩
/-- an array of two numbers -/
theorem rep_two {w : World} {k : IntKind} {cs : List Value} (h : (Sh.rep 2 (.num k)).ok w cs) : ∃ x y : Int, cs = [.int k x, .int k y] ∧ (Lit.int k x).wf = true ∧ (Lit.int k y).wf = true := by
  obtain ⟨l, h1, h2, h3⟩ := rep_nums h
  match l, h1 with
  | [x, y], _ => exact ⟨x, y, h2, h3 x (by simp), h3 y (by simp)⟩
/-- a slice of numbers -/
theorem sl_nums {w : World} {k : IntKind} {a : Option Addr} {len cap : Nat} (h : (Sh.sl (.num k)).ok w [.slice a len cap]) :
    ∃ l : List Int, l.length = len ∧ len ≤ cap ∧ cap ≤ 140737488351232 ∧ Rd w 0 w.heap.size a (l.map (Value.int k)) ∧ (a = none → cap = 0) ∧ ∀ z ∈ l, (Lit.int k z).wf = true := by
  rcases h with h | ⟨ad, len', cap', h, h1, h2, h3⟩
  · simp at h
    obtain ⟨rfl, rfl, rfl⟩ := h
    exact ⟨[], rfl, Nat.le_refl _, Nat.zero_le _, Rd.nil, fun _ => rfl, by simp⟩
  · simp at h
    obtain ⟨rfl, rfl, rfl⟩ := h
    have h4 : ∀ i, i < len → ∃ z, w.cell? (ad.add i) = some (.int k z) ∧ (Lit.int k z).wf = true := fun i hi => by
      obtain ⟨c, _, hc, z, rfl, hw⟩ := h3 i hi
      have := hc 0 (.int k z) rfl
      simp [Sh.size] at this
      exact ⟨z, this, hw⟩
    have h5 : ∀ n, n ≤ len → ∃ l : List Int, l.length = n ∧ (∀ i z, l[i]? = some z → w.cell? (ad.add i) = some (.int k z)) ∧ ∀ z ∈ l, (Lit.int k z).wf = true := by
      intro n
      induction n with
      | zero => intro _; exact ⟨[], rfl, by simp, by simp⟩
      | succ n ih =>
        intro hn
        obtain ⟨l, hl, hc, hw⟩ := ih (by omega)
        obtain ⟨z, hz, hzw⟩ := h4 n (by omega)
        refine ⟨l ++ [z], by simp [hl], fun i y hy => ?_, fun y hy => ?_⟩
        · rcases Nat.lt_or_ge i l.length with hi | hi
          · rw [List.getElem?_append_left hi] at hy
            exact hc i y hy
          · rw [List.getElem?_append_right hi] at hy
            have hi0 : i - l.length = 0 := by
              have := (List.getElem?_eq_some_iff.1 hy).1
              simp at this
              omega
            rw [hi0] at hy
            simp at hy
            subst hy
            rw [show i = n from by omega]
            exact hz
        · rcases List.mem_append.1 hy with hy | hy
          · exact hw y hy
          · simp at hy
            subst hy
            exact hzw
    obtain ⟨l, hl, hc, hw⟩ := h5 len (Nat.le_refl _)
    refine ⟨l, hl, h1, h2, fun i u hu => ?_, fun h => (by cases h), hw⟩
    rw [List.getElem?_map] at hu
    cases hz : l[i]? with
    | none => rw [hz] at hu; cases hu
    | some z =>
      rw [hz] at hu
      cases hu
      have h6 := hc i z hz
      have h7 := cell_lt h6
      rw [blk_add] at h7
      exact ⟨ad, rfl, Nat.zero_le _, h7, h6⟩
/-- a slice of bytes -/
theorem sl_bytes {w : World} {a : Option Addr} {len cap : Nat} (h : (Sh.sl (.num .u8)).ok w [.slice a len cap]) :
    ∃ l : List UInt8, l.length = len ∧ len ≤ cap ∧ cap ≤ 140737488351232 ∧ Rd w 0 w.heap.size a (cells l) ∧ (a = none → cap = 0) := by
  obtain ⟨zs, h1, h2, h3, h4, h5, h6⟩ := sl_nums h
  obtain ⟨l, rfl⟩ := bytes_of zs h6
  refine ⟨l, by simpa using h1, h2, h3, ?_, h5⟩
  have : (l.map fun c => (c.toNat : Int)).map (Value.int .u8) = cells l := by simp [cells]
  rw [← this]
  exact h4
end Go.Proofs.Ytebflcpoecolbaa
