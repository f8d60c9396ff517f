/-
  The three rows that frag.lay fills: parts ahead of a piece, touched by it, and behind it; from where to where. No program's walk, no condition.
-/
import Derived.Test.YtogplhdcicajgaaDelete
namespace Go.Proofs.Ytogplhdcicajgaa
open Go.RowKit

def Apart (a b : Value) : Prop := ∀ k, a.ownBlock = some k → b.ownBlock ≠ some k
theorem Apart.symm {a b : Value} (h : Apart a b) : Apart b a := fun k hk he => h k he hk
theorem apart_nil (b : Value) : Apart (.slice none 0 0) b := fun k hk => by cases hk
/-- a row of parts that the call owns -/
def OwnPs (w wr : World) (B : Nat) (v : Value) (ps : List Pt) : Prop := ∃ xs, wr.ownsRow B 60 2 v ps.length xs ∧ RowOf 2 (PtT w) xs ps
theorem OwnPs.below {w wr w2 : World} {B : Nat} {v : Value} {ps : List Pt} (h : OwnPs w wr B v ps) (hb : Below wr.heap.size wr w2) : OwnPs w w2 B v ps := by
  obtain ⟨xs, h1, h2⟩ := h
  exact ⟨xs, ownk_below h1 hb (Nat.le_refl _), h2⟩
theorem OwnPs.kept {w wr w2 : World} {B : Nat} {v v2 : Value} {ps : List Pt} (h : OwnPs w wr B v ps) (hg : wr.grownBy w2 v2.ownBlock) (ha : Apart v v2) : OwnPs w w2 B v ps := by
  obtain ⟨xs, h1, h2⟩ := h
  refine ⟨xs, h1.kept hg ?_, h2⟩
  cases hv : v.ownBlock with
  | none => exact .inl rfl
  | some k => exact .inr fun he => ha k hv he.symm
theorem OwnPs.lt {w wr : World} {B : Nat} {v : Value} {ps : List Pt} (h : OwnPs w wr B v ps) : ∀ k, v.ownBlock = some k → k < wr.heap.size := by
  obtain ⟨xs, h1, _⟩ := h
  exact fun k hk => (h1.lt k hk).2
theorem OwnPs.add {w w2 : World} {B : Nat} {v' : Value} {ps : List Pt} {xs cs : List Value} {pt : Pt} (ho : w2.ownsRow B 60 2 v' (ps.length + 1) (xs ++ cs)) (h2 : RowOf 2 (PtT w) xs ps) (hp : PtT w cs pt) : OwnPs w w2 B v' (ps ++ [pt]) :=
  ⟨xs ++ cs, by rw [List.length_append]; exact ho, h2.append (RowOf.one hp hp.len)⟩
theorem apart_new {w wr : World} {B : Nat} {v v1 v1' : Value} {ps : List Pt} (h : Apart v v1) (ho : OwnPs w wr B v ps) (hat : v1'.ownBlock = v1.ownBlock ∨ v1'.ownBlock = some wr.heap.size) : Apart v v1' := fun k hk he => by
  rcases hat with e | e
  · exact h k hk (e ▸ he)
  · rw [e] at he
    injection he with he
    have := ho.lt k hk
    omega
/-- the three rows -/
structure Three (w wr : World) (B : Nat) (p : Pk) (l : List Pt) (v5 v6 v7 : Value) : Prop where
  a : OwnPs w wr B v5 (l.filter (aheadB p))
  t : OwnPs w wr B v6 (l.filter (touchB p))
  b : OwnPs w wr B v7 (l.filter (behindB p))
  at_ : Apart v5 v6
  ab : Apart v5 v7
  tb : Apart v6 v7
theorem Three.nil (w wr : World) (B : Nat) (p : Pk) : Three w wr B p [] (.slice none 0 0) (.slice none 0 0) (.slice none 0 0) :=
  ⟨⟨[], World.ownsRow_nil _ _ _ _, RowOf.nil⟩, ⟨[], World.ownsRow_nil _ _ _ _, RowOf.nil⟩, ⟨[], World.ownsRow_nil _ _ _ _, RowOf.nil⟩, apart_nil _, apart_nil _, apart_nil _⟩
theorem Three.below {w wr w2 : World} {B : Nat} {p : Pk} {l : List Pt} {v5 v6 v7 : Value} (h : Three w wr B p l v5 v6 v7) (hb : Below wr.heap.size wr w2) : Three w w2 B p l v5 v6 v7 :=
  ⟨h.a.below hb, h.t.below hb, h.b.below hb, h.at_, h.ab, h.tb⟩
section
variable {w wr w2 : World} {B : Nat} {p : Pk} {l : List Pt} {v5 v6 v7 v' : Value} {pt : Pt} {xs cs : List Value}
theorem filt_in (f : Pt → Bool) (h : f pt = true) : (l ++ [pt]).filter f = l.filter f ++ [pt] := by simp [List.filter_append, List.filter_cons, h]
theorem filt_out (f : Pt → Bool) (h : f pt = false) : (l ++ [pt]).filter f = l.filter f := by simp [List.filter_append, List.filter_cons, h]
theorem Three.behind (h : Three w wr B p l v5 v6 v7) (hb : behindB p pt = true) (hr : RowOf 2 (PtT w) xs (l.filter (behindB p))) (ho : w2.ownsRow B 60 2 v' ((l.filter (behindB p)).length + 1) (xs ++ cs)) (hg : wr.grownBy w2 v7.ownBlock) (hat : v'.ownBlock = v7.ownBlock ∨ v'.ownBlock = some wr.heap.size) (hp : PtT w cs pt) : Three w w2 B p (l ++ [pt]) v5 v6 v' := by
  have h1 : aheadB p pt = false := by unfold aheadB; rw [hb]; rfl
  have h2 : touchB p pt = false := by unfold touchB; rw [hb]; rfl
  refine ⟨?_, ?_, ?_, h.at_, apart_new h.ab h.a hat, apart_new h.tb h.t hat⟩
  · rw [filt_out _ h1]; exact h.a.kept hg h.ab
  · rw [filt_out _ h2]; exact h.t.kept hg h.tb
  · rw [filt_in _ hb]; exact .add ho hr hp
theorem Three.ahead (h : Three w wr B p l v5 v6 v7) (hb : behindB p pt = false) (ha : aheadB p pt = true) (hr : RowOf 2 (PtT w) xs (l.filter (aheadB p))) (ho : w2.ownsRow B 60 2 v' ((l.filter (aheadB p)).length + 1) (xs ++ cs)) (hg : wr.grownBy w2 v5.ownBlock) (hat : v'.ownBlock = v5.ownBlock ∨ v'.ownBlock = some wr.heap.size) (hp : PtT w cs pt) : Three w w2 B p (l ++ [pt]) v' v6 v7 := by
  have h2 : touchB p pt = false := by
    unfold aheadB at ha
    unfold touchB
    rw [hb] at ha ⊢
    simp at ha ⊢
    exact ha
  refine ⟨?_, ?_, ?_, (apart_new h.at_.symm h.t hat).symm, (apart_new h.ab.symm h.b hat).symm, h.tb⟩
  · rw [filt_in _ ha]; exact .add ho hr hp
  · rw [filt_out _ h2]; exact h.t.kept hg h.at_.symm
  · rw [filt_out _ hb]; exact h.b.kept hg h.ab.symm
theorem Three.touch (h : Three w wr B p l v5 v6 v7) (hb : behindB p pt = false) (ha : touchB p pt = true) (hr : RowOf 2 (PtT w) xs (l.filter (touchB p))) (ho : w2.ownsRow B 60 2 v' ((l.filter (touchB p)).length + 1) (xs ++ cs)) (hg : wr.grownBy w2 v6.ownBlock) (hat : v'.ownBlock = v6.ownBlock ∨ v'.ownBlock = some wr.heap.size) (hp : PtT w cs pt) : Three w w2 B p (l ++ [pt]) v5 v' v7 := by
  have h2 : aheadB p pt = false := by
    unfold touchB at ha
    unfold aheadB
    rw [hb] at ha ⊢
    simp at ha ⊢
    exact ha
  refine ⟨?_, ?_, ?_, apart_new h.at_ h.a hat, h.ab, (apart_new h.tb.symm h.b hat).symm⟩
  · rw [filt_out _ h2]; exact h.a.kept hg h.at_
  · rw [filt_in _ ha]; exact .add ho hr hp
  · rw [filt_out _ hb]; exact h.b.kept hg h.tb.symm
end
theorem from_in (p : Pk) (l : List Pt) (pt : Pt) (h : touchB p pt = true) : fromP p (l ++ [pt]) = min (fromP p l) pt.off := by
  unfold fromP
  rw [filt_in _ h, List.foldl_append]
  rfl
theorem from_out (p : Pk) (l : List Pt) (pt : Pt) (h : touchB p pt = false) : fromP p (l ++ [pt]) = fromP p l := by
  unfold fromP
  rw [filt_out _ h]
theorem to_in (p : Pk) (l : List Pt) (pt : Pt) (h : touchB p pt = true) : toP p (l ++ [pt]) = max (toP p l) pt.fin := by
  unfold toP
  rw [filt_in _ h, List.foldl_append]
  rfl
theorem to_out (p : Pk) (l : List Pt) (pt : Pt) (h : touchB p pt = false) : toP p (l ++ [pt]) = toP p l := by
  unfold toP
  rw [filt_out _ h]
theorem touch_of_ahead {p : Pk} {pt : Pt} (hb : behindB p pt = false) (h : aheadB p pt = true) : touchB p pt = false := by
  unfold aheadB at h
  unfold touchB
  rw [hb] at h ⊢
  simp at h ⊢
  exact h
theorem touch_of_behind {p : Pk} {pt : Pt} (hb : behindB p pt = true) : touchB p pt = false := by unfold touchB; rw [hb]; rfl
theorem over_length (l : List UInt8) (k : Nat) (x : List UInt8) (h : k + x.length ≤ l.length) : (over l k x).length = l.length := by
  unfold over
  rw [List.length_append, List.length_append, List.length_take, List.length_drop]
  omega
end Go.Proofs.Ytogplhdcicajgaa
