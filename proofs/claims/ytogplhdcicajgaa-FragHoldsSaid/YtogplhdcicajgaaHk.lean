/-
  Holes as plain data: what frag's functions make of them; and what their values read as. No program's walk, no condition.
-/
import Derived.Test.YtogplhdcicajgaaSplit
namespace Go.Proofs.Ytogplhdcicajgaa
open Go.RowKit

structure Pt where
  off : Int
  data : List UInt8
structure Hk where
  src : List UInt8
  dst : List UInt8
  proto : UInt8
  id : Nat
  ttl : UInt8
  since : Nat
  fin : Int
  got : List Pt
def Pt.ok (p : Pt) : Prop := 0 ≤ p.off ∧ p.off ≤ 1000 ∧ p.data.length ≤ 1000 ∧ 0 < p.data.length ∧ p.off + (p.data.length : Int) ≤ 1000
def Hk.ok (h : Hk) : Prop := h.id < 65536 ∧ h.src.length = 4 ∧ h.dst.length = 4 ∧ h.since < 18446744073709551616 ∧ -1 ≤ h.fin ∧ h.fin ≤ 1000 ∧ h.got.length ≤ 1000 ∧ ∀ p ∈ h.got, p.ok
def Pt.fin (p : Pt) : Int := p.off + (p.data.length : Int)

/-- old at a time -/
def oldB (h : Hk) (now : Nat) : Bool := decide (h.since ≤ now ∧ 30 ≤ now - h.since)
def ageP (hs : List Hk) (now : Nat) : List Hk := hs.filter fun h => !oldB h now
def belongsB (p : Pk) (h : Hk) : Bool := decide (p.src = h.src ∧ p.dst = h.dst ∧ p.proto = h.proto ∧ p.id = h.id)
def beginP (p : Pk) (now : Nat) : Hk := ⟨p.src, p.dst, p.proto, p.id, p.ttl, now, -1, []⟩
def furtherB (p : Pk) (t : Pt) : Bool := decide (endP p - (t.data.length : Int) < t.off)
def fitsB (p : Pk) (h : Hk) : Bool :=
  if 0 ≤ h.fin then decide (endP p = h.fin) || (p.more && decide (endP p < h.fin)) else p.more || !h.got.any (furtherB p)
/-- a part that lies behind, ahead, and one that is touched -/
def behindB (p : Pk) (t : Pt) : Bool := decide (endP p < t.off)
def aheadB (p : Pk) (t : Pt) : Bool := !behindB p t && decide (t.fin < p.off)
def touchB (p : Pk) (t : Pt) : Bool := !behindB p t && !decide (t.fin < p.off)
def fromP (p : Pk) (l : List Pt) : Int := (l.filter (touchB p)).foldl (fun a t => min a t.off) p.off
def toP (p : Pk) (l : List Pt) : Int := (l.filter (touchB p)).foldl (fun a t => max a t.fin) (endP p)
/-- bytes laid over others at a place -/
def over (l : List UInt8) (k : Nat) (x : List UInt8) : List UInt8 := l.take k ++ x ++ l.drop (k + x.length)
def joinP (p : Pk) (l : List Pt) : List UInt8 :=
  (l.filter (touchB p)).foldl (fun a t => over a (t.off - fromP p l).toNat t.data) (over (List.replicate (toP p l - fromP p l).toNat 0) (p.off - fromP p l).toNat p.data)
def layP (h : Hk) (p : Pk) : Hk :=
  { h with got := h.got.filter (aheadB p) ++ [⟨fromP p h.got, joinP p h.got⟩] ++ h.got.filter (behindB p), fin := if p.more then h.fin else endP p }
def wholeB (h : Hk) : Bool :=
  match h.got with
  | [t] => decide (t.off = 0) && decide ((t.data.length : Int) = h.fin)
  | _ => false
def packetP (h : Hk) : Pk := ⟨h.id, false, 0, h.ttl, h.proto, h.src, h.dst, (h.got.headD ⟨0, []⟩).data⟩
/-- a piece comes to the hole at a place -/
def addAt (l : List Hk) (i : Nat) (h : Hk) (p : Pk) : List Hk × Pk × Bool × Int :=
  if fitsB p h then (if wholeB (layP h p) then (l.eraseIdx i, packetP (layP h p), true, 0) else (l.set i (layP h p), Pk.zero, false, 0)) else (l.eraseIdx i, Pk.zero, false, 7)
def addP (hs : List Hk) (p : Pk) (now : Nat) : List Hk × Pk × Bool × Int :=
  if p.off < 0 ∨ 1000 < p.off ∨ 1000 < endP p then (ageP hs now, Pk.zero, false, 4)
  else if p.off = 0 ∧ p.more = false then (ageP hs now, p, true, 0)
  else if formedB p = false then (ageP hs now, Pk.zero, false, 7)
  else match (ageP hs now).findIdx? (belongsB p) with
  | some i => addAt (ageP hs now) i ((ageP hs now).getD i (beginP p now)) p
  | none => if 8 ≤ (ageP hs now).length then (ageP hs now, Pk.zero, false, 5) else addAt (ageP hs now ++ [beginP p now]) (ageP hs now).length (beginP p now) p

/-- cells that read as a part -/
def PtT (w : World) (cs : List Value) (p : Pt) : Prop := ∃ v, cs = [.int .i64 p.off, v] ∧ TB w 0 p.data v
def hkC (h : Hk) (v : Value) : List Value := cells h.src ++ cells h.dst ++ [.int .u8 (h.proto.toNat : Int), .int .u16 (h.id : Int), .int .u8 (h.ttl.toNat : Int), .int .u64 (h.since : Int), .int .i64 h.fin, v]
/-- a slice that reads as parts -/
def PtsT (w : World) (v : Value) (ps : List Pt) : Prop := ∃ A c xs, v = .slice A ps.length c ∧ Tr w 0 60 A xs ∧ RowOf 2 (PtT w) xs ps ∧ ps.length ≤ c ∧ c ≤ maxLen ∧ (A = none → c = 0)
/-- cells that read as a hole -/
def HkT (w : World) (cs : List Value) (h : Hk) : Prop := ∃ v, cs = hkC h v ∧ h.ok ∧ PtsT w v h.got
/-- a slice that reads as holes -/
def HksT (w : World) (v : Value) (hs : List Hk) : Prop := ∃ A c xs, v = .slice A hs.length c ∧ Tr w 0 49 A xs ∧ RowOf 14 (HkT w) xs hs ∧ hs.length ≤ c ∧ c ≤ maxLen ∧ (A = none → c = 0)
/-- holes that the call owns -/
def OwnHks (w : World) (lo : Nat) (v : Value) (hs : List Hk) : Prop := ∃ xs, w.ownsRow lo 49 14 v hs.length xs ∧ RowOf 14 (HkT w) xs hs

/-- what a world keeps: its rows of bytes and of parts -/
def Keeps (w w' : World) : Prop := ∀ (g : Nat) (C : Array Value) (e : TypeId), (e = 5 ∨ e = 60) → w.heap[g]? = some (.cells C e (0, 0)) → w'.heap[g]? = some (.cells C e (0, 0))
section
variable {w w' w2 : World}
theorem Keeps.refl (w : World) : Keeps w w := fun _ _ _ _ h => h
theorem Keeps.trans (h : Keeps w w') (h2 : Keeps w' w2) : Keeps w w2 := fun g C e he hg => h2 g C e he (h g C e he hg)
theorem Keeps.below {B : Nat} (hb : Below B w w') (hB : w.heap.size ≤ B) : Keeps w w' := fun g C _ _ hg => (hb.block g (by have := row_lt hg; omega)).trans hg
theorem Keeps.grown {row : Option Nat} (hg : w.grownBy w' row) (hr : ∀ g C t fr, row = some g → w.heap[g]? = some (.cells C t fr) → t ≠ 5 ∧ t ≠ 60) : Keeps w w' := fun g C e he hh => by
  refine (hg.block g (row_lt hh) fun h => ?_).trans hh
  have := hr g C e (0, 0) h.symm hh
  rcases he with rfl | rfl
  · exact this.1 rfl
  · exact this.2 rfl
theorem Keeps.other {g : Nat} {C : Array Value} {t : TypeId} {fr : Nat × Nat} (hg : w.heap[g]? = some (.cells C t fr)) (ht : t ≠ 5 ∧ t ≠ 60) (h : ∀ k, k ≠ g → w'.heap[k]? = w.heap[k]?) : Keeps w w' := fun k D e he hh => by
  refine (h k fun hk => ?_).trans hh
  subst hk
  rw [hg] at hh
  injection hh with hh
  injection hh with _ h2
  rcases he with rfl | rfl
  · exact ht.1 h2
  · exact ht.2 h2
theorem TB.keeps {l : List UInt8} {v : Value} {lo : Nat} (h : TB w lo l v) (hk : Keeps w w') : TB w' lo l v := h.keep fun _ hA => hA.keep fun g C _ hg => (hk g C _ (.inl rfl) hg).trans hg.symm
theorem PtT.keeps {cs : List Value} {p : Pt} (h : PtT w cs p) (hk : Keeps w w') : PtT w' cs p := by
  obtain ⟨v, e, h1⟩ := h
  exact ⟨v, e, h1.keeps hk⟩
theorem PtsT.keeps {v : Value} {ps : List Pt} (h : PtsT w v ps) (hk : Keeps w w') : PtsT w' v ps := by
  obtain ⟨A, c, xs, e, h1, h2, h3⟩ := h
  exact ⟨A, c, xs, e, h1.keep fun g C _ hg => (hk g C _ (.inr rfl) hg).trans hg.symm, h2.imp fun _ _ _ h => h.keeps hk, h3⟩
theorem HkT.keeps {cs : List Value} {h : Hk} (hh : HkT w cs h) (hk : Keeps w w') : HkT w' cs h := by
  obtain ⟨v, e, h1, h2⟩ := hh
  exact ⟨v, e, h1, h2.keeps hk⟩
theorem HksT.below {v : Value} {hs : List Hk} (h : HksT w v hs) (hb : Below w.heap.size w w') : HksT w' v hs := by
  obtain ⟨A, c, xs, e, h1, h2, h3⟩ := h
  exact ⟨A, c, xs, e, h1.below hb (Nat.le_refl _), h2.imp fun _ _ _ h => h.keeps (Keeps.below hb (Nat.le_refl _)), h3⟩
theorem OwnHks.rd {lo : Nat} {v : Value} {hs : List Hk} (h : OwnHks w lo v hs) : HksT w v hs := by
  obtain ⟨xs, h1, h2⟩ := h
  obtain ⟨A, c, rfl, h3⟩ := ownk_form h1
  exact ⟨A, c, xs, rfl, (Tr.own h1).wide (Nat.zero_le _), h2, h3⟩
theorem OwnHks.below {lo : Nat} {v : Value} {hs : List Hk} (h : OwnHks w lo v hs) (hb : Below w.heap.size w w') : OwnHks w' lo v hs := by
  obtain ⟨xs, h1, h2⟩ := h
  exact ⟨xs, ownk_below h1 hb (Nat.le_refl _), h2.imp fun _ _ _ h => h.keeps (Keeps.below hb (Nat.le_refl _))⟩
end
theorem PtT.len {w : World} {cs : List Value} {p : Pt} (h : PtT w cs p) : cs.length = 2 := by
  obtain ⟨v, rfl, _⟩ := h
  rfl
theorem PtT.one {w : World} {cs : List Value} {p : Pt} (h : PtT w cs p) : ∀ u ∈ cs, u.oneCell' = true := by
  obtain ⟨v, rfl, A, c, rfl, _⟩ := h
  intro u hu
  simp at hu
  rcases hu with rfl | rfl <;> rfl
theorem hkC_len {h : Hk} (hk : h.ok) (v : Value) : (hkC h v).length = 14 := by
  simp [hkC, cells_length, hk.2.1, hk.2.2.1]
theorem HkT.len {w : World} {cs : List Value} {h : Hk} (hh : HkT w cs h) : cs.length = 14 := by
  obtain ⟨v, rfl, h1, _⟩ := hh
  exact hkC_len h1 v
theorem HkT.one {w : World} {cs : List Value} {h : Hk} (hh : HkT w cs h) : ∀ u ∈ cs, u.oneCell' = true := by
  obtain ⟨v, rfl, _, A, c, xs, rfl, _⟩ := hh
  intro u hu
  simp only [hkC, List.mem_append, List.mem_cons, List.not_mem_nil, or_false] at hu
  rcases hu with (hu | hu) | rfl | rfl | rfl | rfl | rfl | rfl
  · exact cells_one _ u hu
  · exact cells_one _ u hu
  all_goals rfl
theorem HkT.ok {w : World} {cs : List Value} {h : Hk} (hh : HkT w cs h) : h.ok := by
  obtain ⟨v, _, h1, _⟩ := hh
  exact h1
/-- a hole's fields among its cells -/
theorem HkT.parts {w : World} {cs : List Value} {h : Hk} (hh : HkT w cs h) : ∃ A c xs, cs[8]? = some (.int .u8 (h.proto.toNat : Int)) ∧ cs[9]? = some (.int .u16 (h.id : Int)) ∧ cs[10]? = some (.int .u8 (h.ttl.toNat : Int)) ∧ cs[11]? = some (.int .u64 (h.since : Int)) ∧ cs[12]? = some (.int .i64 h.fin) ∧ cs[13]? = some (.slice A h.got.length c) ∧
    Tr w 0 60 A xs ∧ RowOf 2 (PtT w) xs h.got ∧ h.got.length ≤ c ∧ c ≤ maxLen ∧ (A = none → c = 0) := by
  obtain ⟨v, rfl, ho, A, c, xs, rfl, h1⟩ := hh
  obtain ⟨s0, s1, s2, s3, e1⟩ := four_of h.src ho.2.1
  obtain ⟨d0, d1, d2, d3, e2⟩ := four_of h.dst ho.2.2.1
  refine ⟨A, c, xs, ?_, ?_, ?_, ?_, ?_, ?_, h1⟩ <;> simp only [hkC, e1, e2] <;> rfl
theorem size_hk {cs : Array Value} (h : cs.size = 14) : (Try.prog.info? 49).map (·.size) = some cs.size := by
  rw [h]
  kernel_rfl
theorem size_pt {cs : Array Value} (h : cs.size = 2) : (Try.prog.info? 60).map (·.size) = some cs.size := by
  rw [h]
  kernel_rfl
theorem info_hk : (Try.prog.info? 49).map (fun i => (i.zero, i.size, i.bytes)) = some (some (.agg #[.int .u8 0, .int .u8 0, .int .u8 0, .int .u8 0, .int .u8 0, .int .u8 0, .int .u8 0, .int .u8 0, .int .u8 0, .int .u16 0, .int .u8 0, .int .u64 0, .int .i64 0, .slice none 0 0]), 14, 56) := by kernel_rfl
theorem info_pt : (Try.prog.info? 60).map (fun i => (i.zero, i.size, i.bytes)) = some (some (.agg #[.int .i64 0, .slice none 0 0]), 2, 32) := by kernel_rfl
end Go.Proofs.Ytogplhdcicajgaa
