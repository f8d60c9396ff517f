/-
  What the code makes of pieces and one more: those ahead of it, touched by it, behind it; the three rows that it fills. No program's walk, no condition.
-/
import Derived.Test.YtdgfhcojmfgimaaRdb
namespace Go.Proofs.Ytdgfhcojmfgimaa
open Go.RowKit

def offQ (p t : Pc) : Int := diffS t.seq p.seq
def endQ (p t : Pc) : Int := offQ p t + t.data.length
def behindQ (p t : Pc) : Bool := decide ((p.data.length : Int) < offQ p t)
def aheadQ (p t : Pc) : Bool := !behindQ p t && decide (endQ p t < 0)
def touchQ (p t : Pc) : Bool := !behindQ p t && !decide (endQ p t < 0)
def fromQ (p : Pc) (l : List Pc) : Int := (l.filter (touchQ p)).foldl (fun a t => min a (offQ p t)) 0
def toQ (p : Pc) (l : List Pc) : Int := (l.filter (touchQ p)).foldl (fun a t => max a (endQ p t)) p.data.length
/-- bytes laid over others at a place -/
def over (l : List UInt8) (k : Nat) (x : List UInt8) : List UInt8 := l.take k ++ x ++ l.drop (k + x.length)
def joinQ (p : Pc) (l : List Pc) : List UInt8 :=
  (l.filter (touchQ p)).foldl (fun a t => over a (offQ p t - fromQ p l).toNat t.data) (over (List.replicate (toQ p l - fromQ p l).toNat 0) (-fromQ p l).toNat p.data)
def layQ (l : List Pc) (p : Pc) : List Pc := l.filter (aheadQ p) ++ [⟨addS p.seq (fromQ p l), joinQ p l⟩] ++ l.filter (behindQ p)

theorem over_length (l : List UInt8) (k : Nat) (x : List UInt8) (h : k + x.length ≤ l.length) : (over l k x).length = l.length := by
  unfold over
  rw [List.length_append, List.length_append, List.length_take, List.length_drop]
  omega
theorem fold_min_le (f : Pc → Int) : ∀ (l : List Pc) (a : Int), l.foldl (fun a t => min a (f t)) a ≤ a ∧ ∀ t ∈ l, l.foldl (fun a t => min a (f t)) a ≤ f t
  | [], a => ⟨Int.le_refl _, fun t ht => by cases ht⟩
  | x :: r, a => by
    obtain ⟨h1, h2⟩ := fold_min_le f r (min a (f x))
    refine ⟨by simp only [List.foldl_cons]; omega, fun t ht => ?_⟩
    simp only [List.foldl_cons]
    rcases List.mem_cons.1 ht with rfl | ht
    · omega
    · exact h2 t ht
theorem fold_max_le (f : Pc → Int) : ∀ (l : List Pc) (a : Int), a ≤ l.foldl (fun a t => max a (f t)) a ∧ ∀ t ∈ l, f t ≤ l.foldl (fun a t => max a (f t)) a
  | [], a => ⟨Int.le_refl _, fun t ht => by cases ht⟩
  | x :: r, a => by
    obtain ⟨h1, h2⟩ := fold_max_le f r (max a (f x))
    refine ⟨by simp only [List.foldl_cons]; omega, fun t ht => ?_⟩
    simp only [List.foldl_cons]
    rcases List.mem_cons.1 ht with rfl | ht
    · omega
    · exact h2 t ht
/-- the bytes while the touched pieces are laid over them -/
def laid (p : Pc) (f : Int) (l0 : List UInt8) (ts : List Pc) : List UInt8 := ts.foldl (fun a t => over a (offQ p t - f).toNat t.data) l0
theorem laid_succ (p : Pc) (f : Int) (l0 : List UInt8) (ts : List Pc) (j : Nat) (t : Pc) (h : ts[j]? = some t) : laid p f l0 (ts.take (j + 1)) = over (laid p f l0 (ts.take j)) (offQ p t - f).toNat t.data := by
  have hl := (List.getElem?_eq_some_iff.1 h).1
  rw [List.take_succ_eq_append_getElem hl, (List.getElem?_eq_some_iff.1 h).2]
  unfold laid
  rw [List.foldl_append]
  rfl
theorem split_le (p : Pc) : ∀ l : List Pc, (l.filter (aheadQ p)).length + (l.filter (behindQ p)).length ≤ l.length
  | [] => Nat.le_refl _
  | x :: r => by
    have ih := split_le p r
    simp only [List.filter_cons, List.length_cons]
    cases hb : behindQ p x
    · cases ha : aheadQ p x <;> simp <;> omega
    · have : aheadQ p x = false := by unfold aheadQ; rw [hb]; rfl
      rw [this]
      simp
      omega

def Apart (a b : Value) : Prop := ∀ k, a.ownBlock = some k → b.ownBlock ≠ some k
theorem Apart.symm {a b : Value} (h : Apart a b) : Apart b a := fun k hk he => h k he hk
theorem apart_nil (b : Value) : Apart (.slice none 0 0) b := fun k hk => by cases hk
/-- a row of pieces that the call owns -/
def OwnPs (lo : Nat) (w wr : World) (B : Nat) (v : Value) (ps : List Pc) : Prop := ∃ xs, wr.ownsRow B 55 2 v ps.length xs ∧ RowOf 2 (PcT lo w) xs ps
section
variable {lo B : Nat} {w wr w2 : World} {v v2 v' v1 v1' v5 v6 v7 : Value} {ps l : List Pc} {xs cs : List Value} {pt : Pc} {fa ft fb : Pc → Bool}
theorem OwnPs.below (h : OwnPs lo w wr B v ps) (hb : Below wr.heap.size wr w2) : OwnPs lo w w2 B v ps := by
  obtain ⟨xs, h1, h2⟩ := h
  exact ⟨xs, ownk_below h1 hb (Nat.le_refl _), h2⟩
theorem OwnPs.kept (h : OwnPs lo w wr B v ps) (hg : wr.grownBy w2 v2.ownBlock) (ha : Apart v v2) : OwnPs lo w w2 B v ps := by
  obtain ⟨xs, h1, h2⟩ := h
  refine ⟨xs, h1.kept hg ?_, h2⟩
  cases hv : v.ownBlock with
  | none => exact .inl rfl
  | some k => exact .inr fun he => ha k hv he.symm
theorem OwnPs.lt (h : OwnPs lo w wr B v ps) : ∀ k, v.ownBlock = some k → k < wr.heap.size := by
  obtain ⟨xs, h1, _⟩ := h
  exact fun k hk => (h1.lt k hk).2
theorem OwnPs.add (ho : w2.ownsRow B 55 2 v' (ps.length + 1) (xs ++ cs)) (h2 : RowOf 2 (PcT lo w) xs ps) (hp : PcT lo w cs pt) : OwnPs lo w w2 B v' (ps ++ [pt]) :=
  ⟨xs ++ cs, by rw [List.length_append]; exact ho, h2.append (RowOf.one hp hp.len)⟩
theorem OwnPs.pcs (h : OwnPs lo w wr B v ps) (hB : lo ≤ B) (hk : Keeps w wr) : PcsT lo wr v ps := by
  obtain ⟨xs, h1, h2⟩ := h
  obtain ⟨A, c, rfl, h3, h4, h5⟩ := ownk_form h1
  exact ⟨A, c, xs, rfl, (Tr.own h1).wide hB, h2.imp fun _ _ _ h => h.keeps hk, h3, h4, h5⟩
theorem apart_new (h : Apart v v1) (ho : OwnPs lo w wr B v ps) (hat : v1'.ownBlock = v1.ownBlock ∨ v1'.ownBlock = some wr.heap.size) : Apart v v1' := fun k hk he => by
  rcases hat with e | e
  · exact h k hk (e ▸ he)
  · rw [e] at he
    injection he with he
    have := ho.lt k hk
    omega
/-- the three rows -/
structure Three (lo : Nat) (w wr : World) (B : Nat) (fa ft fb : Pc → Bool) (l : List Pc) (v5 v6 v7 : Value) : Prop where
  a : OwnPs lo w wr B v5 (l.filter fa)
  t : OwnPs lo w wr B v6 (l.filter ft)
  b : OwnPs lo w wr B v7 (l.filter fb)
  at_ : Apart v5 v6
  ab : Apart v5 v7
  tb : Apart v6 v7
theorem Three.nil (lo : Nat) (w wr : World) (B : Nat) (fa ft fb : Pc → Bool) : Three lo w wr B fa ft fb [] (.slice none 0 0) (.slice none 0 0) (.slice none 0 0) :=
  ⟨⟨[], World.ownsRow_nil _ _ _ _, RowOf.nil⟩, ⟨[], World.ownsRow_nil _ _ _ _, RowOf.nil⟩, ⟨[], World.ownsRow_nil _ _ _ _, RowOf.nil⟩, apart_nil _, apart_nil _, apart_nil _⟩
theorem Three.below (h : Three lo w wr B fa ft fb l v5 v6 v7) (hb : Below wr.heap.size wr w2) : Three lo w w2 B fa ft fb l v5 v6 v7 :=
  ⟨h.a.below hb, h.t.below hb, h.b.below hb, h.at_, h.ab, h.tb⟩
theorem filt_in {f : Pc → Bool} (h : f pt = true) : (l ++ [pt]).filter f = l.filter f ++ [pt] := by simp [List.filter_append, h]
theorem filt_out {f : Pc → Bool} (h : f pt = false) : (l ++ [pt]).filter f = l.filter f := by simp [List.filter_append, h]
theorem Three.behind (h : Three lo w wr B fa ft fb l v5 v6 v7) (h1 : fa pt = false) (h2 : ft pt = false) (hb : fb pt = true) (hr : RowOf 2 (PcT lo w) xs (l.filter fb)) (ho : w2.ownsRow B 55 2 v' ((l.filter fb).length + 1) (xs ++ cs)) (hg : wr.grownBy w2 v7.ownBlock) (hat : v'.ownBlock = v7.ownBlock ∨ v'.ownBlock = some wr.heap.size) (hp : PcT lo w cs pt) : Three lo w w2 B fa ft fb (l ++ [pt]) v5 v6 v' := by
  refine ⟨?_, ?_, ?_, h.at_, apart_new h.ab h.a hat, apart_new h.tb h.t hat⟩
  · rw [filt_out h1]; exact h.a.kept hg h.ab
  · rw [filt_out h2]; exact h.t.kept hg h.tb
  · rw [filt_in hb]; exact .add ho hr hp
theorem Three.ahead (h : Three lo w wr B fa ft fb l v5 v6 v7) (ha : fa pt = true) (h2 : ft pt = false) (hb : fb pt = false) (hr : RowOf 2 (PcT lo w) xs (l.filter fa)) (ho : w2.ownsRow B 55 2 v' ((l.filter fa).length + 1) (xs ++ cs)) (hg : wr.grownBy w2 v5.ownBlock) (hat : v'.ownBlock = v5.ownBlock ∨ v'.ownBlock = some wr.heap.size) (hp : PcT lo w cs pt) : Three lo w w2 B fa ft fb (l ++ [pt]) v' v6 v7 := by
  refine ⟨?_, ?_, ?_, (apart_new h.at_.symm h.t hat).symm, (apart_new h.ab.symm h.b hat).symm, h.tb⟩
  · rw [filt_in ha]; exact .add ho hr hp
  · rw [filt_out h2]; exact h.t.kept hg h.at_.symm
  · rw [filt_out hb]; exact h.b.kept hg h.ab.symm
theorem Three.touch (h : Three lo w wr B fa ft fb l v5 v6 v7) (h2 : fa pt = false) (ha : ft pt = true) (hb : fb pt = false) (hr : RowOf 2 (PcT lo w) xs (l.filter ft)) (ho : w2.ownsRow B 55 2 v' ((l.filter ft).length + 1) (xs ++ cs)) (hg : wr.grownBy w2 v6.ownBlock) (hat : v'.ownBlock = v6.ownBlock ∨ v'.ownBlock = some wr.heap.size) (hp : PcT lo w cs pt) : Three lo w w2 B fa ft fb (l ++ [pt]) v5 v' v7 := by
  refine ⟨?_, ?_, ?_, apart_new h.at_ h.a hat, h.ab, (apart_new h.tb.symm h.b hat).symm⟩
  · rw [filt_out h2]; exact h.a.kept hg h.at_
  · rw [filt_in ha]; exact .add ho hr hp
  · rw [filt_out hb]; exact h.b.kept hg h.tb.symm
end
theorem from_in (p : Pc) (l : List Pc) (pt : Pc) (h : touchQ p pt = true) : fromQ p (l ++ [pt]) = min (fromQ p l) (offQ p pt) := by
  unfold fromQ
  rw [filt_in h, List.foldl_append]
  rfl
theorem from_out (p : Pc) (l : List Pc) (pt : Pc) (h : touchQ p pt = false) : fromQ p (l ++ [pt]) = fromQ p l := by
  unfold fromQ
  rw [filt_out h]
theorem to_in (p : Pc) (l : List Pc) (pt : Pc) (h : touchQ p pt = true) : toQ p (l ++ [pt]) = max (toQ p l) (endQ p pt) := by
  unfold toQ
  rw [filt_in h, List.foldl_append]
  rfl
theorem to_out (p : Pc) (l : List Pc) (pt : Pc) (h : touchQ p pt = false) : toQ p (l ++ [pt]) = toQ p l := by
  unfold toQ
  rw [filt_out h]

theorem cells_keep {w w' : World} {row : Option Nat} {b : Nat} {C : Array Value} {t : TypeId} {fr : Nat × Nat} (hg : w.grownBy w' row) (h : w.heap[b]? = some (.cells C t fr)) (hne : ∀ j, row = some j → b ≠ j) (i : Nat) : w'.cell? ⟨b, i, none⟩ = C[i]? :=
  cell_of_row _ _ _ _ _ _ ((hg.block b (row_lt h) fun he => hne b he.symm rfl).trans h)
theorem make_row (n : Nat) (hn : n ≤ 100000) (w : World) : (Instr.makeSlice 26 (.int .i64 (n : Int)) (.int .i64 (n : Int))).run Try.prog w = .ok (.slice (some ⟨w.heap.size, 0, none⟩) n n) (w.alloc (.cells (cells (List.replicate n 0)).toArray 5)) := by
  obtain ⟨i0, hi0, hz0, hz1, hz2⟩ := u8_parts
  have hr := run_make (P := Try.prog) w 26 5 i0 (.int .u8 0) Try.underlying26 hi0 hz0 .i64 .i64 n n (by omega) (Int.le_refl _) (by rw [hz2]; omega) (by omega)
  simp only [Int.toNat_natCast] at hr
  have e : madeCells (Value.int .u8 0).cells (n * i0.size) = (cells (List.replicate n 0)).toArray := by
    apply Array.ext'
    rw [hz1, Nat.mul_one]
    show (madeCells #[.int .u8 0] n).toList = _
    rw [toList_madeCells_one]
    simp [cells]
  rw [e] at hr
  exact hr
/-- bytes copied into a row of bytes -/
theorem copy_bytes (w : World) (J a d n c : Nat) (ty : TypeId) (A : Option Addr) (l x : List UInt8) {lo hi : Nat} (hg : w.heap[J]? = some (.cells (cells l).toArray 5 (0, 0))) (hl : l.length = d) (hx : x.length = n) (hn : 0 < n) (hf : a + n ≤ d) (hr : Rd w lo hi A (cells x)) :
    (Builtin.copy_ #[26, 26] ty #[.slice (some ⟨J, a, none⟩) (d - a) (d - a), .slice A n c]).run Try.prog w = .ok (goInt n) (w.setRow J (cells (over l a x)).toArray) := by
  obtain ⟨ad, rfl, _⟩ := hr.byte (k := 0) (by omega)
  have h := run_copy_row (P := Try.prog) w 26 26 ty 5 J a (d - a) (d - a) ad n c (cells l).toArray 5 (cells x) Try.underlying26 (by kernel_rfl) hg (by rw [cells_length, hx]; exact (Nat.min_eq_left (by omega)).symm) (fun j v hv => by
    obtain ⟨ad', e, _, _, hc⟩ := hr j v hv
    cases e
    exact hc) (by rw [cells_length]; simp [cells_length]; omega) (cells_one x)
  rw [h, cells_length, hx]
  congr 2
  simp only [over, cells_append, cells_take, cells_drop, hx]
end Go.Proofs.Ytdgfhcojmfgimaa
