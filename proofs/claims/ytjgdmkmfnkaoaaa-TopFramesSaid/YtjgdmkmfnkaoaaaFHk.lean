/-
  Holes as plain data: what frag's functions make of them; and what their values read as. No program's walk, no condition.
-/
/-
  Whether two hosts' addresses are the same; caravelref06.Same: whether two packets are one. Every two packets that can be read.
-/
/-
  frag.old, frag.belongs and the function value of Add: their answers, for every hole and packet that can be read. No condition.
-/
/-
  slices.Clone of parts: a row of the call's own with the same parts, the bytes where they were. Every slice that reads as parts. No condition.
-/
/-
  frag.clone: the same hole, in memory of its own. Every hole that can be read. No condition.
-/
/-
  frag.Age: the holes that are not too old, in memory of their own. Every slice that reads as holes, every time. No condition.
-/
/-
  Which hole a piece belongs to: the function value that frag.Add hands to slices.IndexFunc, and what that answers. No condition.
-/
/-
  frag.begin: the hole of a piece that is the first of its packet to come. Every packet that can be read. No condition.
-/
import Derived.Test.YtjgdmkmfnkaoaaaFSplit
import Derived.Laws.StructEq
import Derived.Lib.Strings
namespace Go.Proofs.Ytjgdmkmfnkaoaaa.F
open Go.RowKit

structure Pt where
  off : Int
  data : List UInt8
structure Hk where
  src : List UInt8
  dst : List UInt8
  proto : UInt8
  id : Nat
  ttl : UInt8
  since : Nat
  fin : Int
  got : List Pt
def Pt.ok (p : Pt) : Prop := 0 ≤ p.off ∧ p.off ≤ 1000 ∧ p.data.length ≤ 1000 ∧ 0 < p.data.length ∧ p.off + (p.data.length : Int) ≤ 1000
def Hk.ok (h : Hk) : Prop := h.id < 65536 ∧ h.src.length = 4 ∧ h.dst.length = 4 ∧ h.since < 18446744073709551616 ∧ -1 ≤ h.fin ∧ h.fin ≤ 1000 ∧ h.got.length ≤ 1000 ∧ ∀ p ∈ h.got, p.ok
def Pt.fin (p : Pt) : Int := p.off + (p.data.length : Int)

/-- old at a time -/
def oldB (h : Hk) (now : Nat) : Bool := decide (h.since ≤ now ∧ 30 ≤ now - h.since)
def ageP (hs : List Hk) (now : Nat) : List Hk := hs.filter fun h => !oldB h now
def belongsB (p : Pk) (h : Hk) : Bool := decide (p.src = h.src ∧ p.dst = h.dst ∧ p.proto = h.proto ∧ p.id = h.id)
def beginP (p : Pk) (now : Nat) : Hk := ⟨p.src, p.dst, p.proto, p.id, p.ttl, now, -1, []⟩
def furtherB (p : Pk) (t : Pt) : Bool := decide (endP p - (t.data.length : Int) < t.off)
def fitsB (p : Pk) (h : Hk) : Bool :=
  if 0 ≤ h.fin then decide (endP p = h.fin) || (p.more && decide (endP p < h.fin)) else p.more || !h.got.any (furtherB p)
/-- a part that lies behind, ahead, and one that is touched -/
def behindB (p : Pk) (t : Pt) : Bool := decide (endP p < t.off)
def aheadB (p : Pk) (t : Pt) : Bool := !behindB p t && decide (t.fin < p.off)
def touchB (p : Pk) (t : Pt) : Bool := !behindB p t && !decide (t.fin < p.off)
def fromP (p : Pk) (l : List Pt) : Int := (l.filter (touchB p)).foldl (fun a t => min a t.off) p.off
def toP (p : Pk) (l : List Pt) : Int := (l.filter (touchB p)).foldl (fun a t => max a t.fin) (endP p)
/-- bytes laid over others at a place -/
def over (l : List UInt8) (k : Nat) (x : List UInt8) : List UInt8 := l.take k ++ x ++ l.drop (k + x.length)
def joinP (p : Pk) (l : List Pt) : List UInt8 :=
  (l.filter (touchB p)).foldl (fun a t => over a (t.off - fromP p l).toNat t.data) (over (List.replicate (toP p l - fromP p l).toNat 0) (p.off - fromP p l).toNat p.data)
def layP (h : Hk) (p : Pk) : Hk :=
  { h with got := h.got.filter (aheadB p) ++ [⟨fromP p h.got, joinP p h.got⟩] ++ h.got.filter (behindB p), fin := if p.more then h.fin else endP p }
def wholeB (h : Hk) : Bool :=
  match h.got with
  | [t] => decide (t.off = 0) && decide ((t.data.length : Int) = h.fin)
  | _ => false
def packetP (h : Hk) : Pk := ⟨h.id, false, 0, h.ttl, h.proto, h.src, h.dst, (h.got.headD ⟨0, []⟩).data⟩
/-- a piece comes to the hole at a place -/
def addAt (l : List Hk) (i : Nat) (h : Hk) (p : Pk) : List Hk × Pk × Bool × Int :=
  if fitsB p h then (if wholeB (layP h p) then (l.eraseIdx i, packetP (layP h p), true, 0) else (l.set i (layP h p), Pk.zero, false, 0)) else (l.eraseIdx i, Pk.zero, false, 7)
def addP (hs : List Hk) (p : Pk) (now : Nat) : List Hk × Pk × Bool × Int :=
  if p.off < 0 ∨ 1000 < p.off ∨ 1000 < endP p then (ageP hs now, Pk.zero, false, 4)
  else if p.off = 0 ∧ p.more = false then (ageP hs now, p, true, 0)
  else if formedB p = false then (ageP hs now, Pk.zero, false, 7)
  else match (ageP hs now).findIdx? (belongsB p) with
  | some i => addAt (ageP hs now) i ((ageP hs now).getD i (beginP p now)) p
  | none => if 8 ≤ (ageP hs now).length then (ageP hs now, Pk.zero, false, 5) else addAt (ageP hs now ++ [beginP p now]) (ageP hs now).length (beginP p now) p

/-- cells that read as a part -/
def PtT (w : World) (cs : List Value) (p : Pt) : Prop := ∃ v, cs = [.int .i64 p.off, v] ∧ TB w 0 p.data v
def hkC (h : Hk) (v : Value) : List Value := cells h.src ++ cells h.dst ++ [.int .u8 (h.proto.toNat : Int), .int .u16 (h.id : Int), .int .u8 (h.ttl.toNat : Int), .int .u64 (h.since : Int), .int .i64 h.fin, v]
/-- a slice that reads as parts -/
def PtsT (w : World) (v : Value) (ps : List Pt) : Prop := ∃ A c xs, v = .slice A ps.length c ∧ Tr w 0 128 A xs ∧ RowOf 2 (PtT w) xs ps ∧ ps.length ≤ c ∧ c ≤ maxLen ∧ (A = none → c = 0)
/-- cells that read as a hole -/
def HkT (w : World) (cs : List Value) (h : Hk) : Prop := ∃ v, cs = hkC h v ∧ h.ok ∧ PtsT w v h.got
/-- a slice that reads as holes -/
def HksT (w : World) (v : Value) (hs : List Hk) : Prop := ∃ A c xs, v = .slice A hs.length c ∧ Tr w 0 109 A xs ∧ RowOf 14 (HkT w) xs hs ∧ hs.length ≤ c ∧ c ≤ maxLen ∧ (A = none → c = 0)
/-- holes that the call owns -/
def OwnHks (w : World) (lo : Nat) (v : Value) (hs : List Hk) : Prop := ∃ xs, w.ownsRow lo 109 14 v hs.length xs ∧ RowOf 14 (HkT w) xs hs

/-- what a world keeps: its rows of bytes and of parts -/
def Keeps (w w' : World) : Prop := ∀ (g : Nat) (C : Array Value) (e : TypeId), (e = 5 ∨ e = 128) → w.heap[g]? = some (.cells C e (0, 0)) → w'.heap[g]? = some (.cells C e (0, 0))
section
variable {w w' w2 : World}
theorem Keeps.refl (w : World) : Keeps w w := fun _ _ _ _ h => h
theorem Keeps.trans (h : Keeps w w') (h2 : Keeps w' w2) : Keeps w w2 := fun g C e he hg => h2 g C e he (h g C e he hg)
theorem Keeps.below {B : Nat} (hb : Below B w w') (hB : w.heap.size ≤ B) : Keeps w w' := fun g C _ _ hg => (hb.block g (by have := row_lt hg; omega)).trans hg
theorem Keeps.grown {row : Option Nat} (hg : w.grownBy w' row) (hr : ∀ g C t fr, row = some g → w.heap[g]? = some (.cells C t fr) → t ≠ 5 ∧ t ≠ 128) : Keeps w w' := fun g C e he hh => by
  refine (hg.block g (row_lt hh) fun h => ?_).trans hh
  have := hr g C e (0, 0) h.symm hh
  rcases he with rfl | rfl
  · exact this.1 rfl
  · exact this.2 rfl
theorem Keeps.other {g : Nat} {C : Array Value} {t : TypeId} {fr : Nat × Nat} (hg : w.heap[g]? = some (.cells C t fr)) (ht : t ≠ 5 ∧ t ≠ 128) (h : ∀ k, k ≠ g → w'.heap[k]? = w.heap[k]?) : Keeps w w' := fun k D e he hh => by
  refine (h k fun hk => ?_).trans hh
  subst hk
  rw [hg] at hh
  injection hh with hh
  injection hh with _ h2
  rcases he with rfl | rfl
  · exact ht.1 h2
  · exact ht.2 h2
theorem TB.keeps {l : List UInt8} {v : Value} {lo : Nat} (h : TB w lo l v) (hk : Keeps w w') : TB w' lo l v := h.keep fun _ hA => hA.keep fun g C _ hg => (hk g C _ (.inl rfl) hg).trans hg.symm
theorem PtT.keeps {cs : List Value} {p : Pt} (h : PtT w cs p) (hk : Keeps w w') : PtT w' cs p := by
  obtain ⟨v, e, h1⟩ := h
  exact ⟨v, e, h1.keeps hk⟩
theorem PtsT.keeps {v : Value} {ps : List Pt} (h : PtsT w v ps) (hk : Keeps w w') : PtsT w' v ps := by
  obtain ⟨A, c, xs, e, h1, h2, h3⟩ := h
  exact ⟨A, c, xs, e, h1.keep fun g C _ hg => (hk g C _ (.inr rfl) hg).trans hg.symm, h2.imp fun _ _ _ h => h.keeps hk, h3⟩
theorem HkT.keeps {cs : List Value} {h : Hk} (hh : HkT w cs h) (hk : Keeps w w') : HkT w' cs h := by
  obtain ⟨v, e, h1, h2⟩ := hh
  exact ⟨v, e, h1, h2.keeps hk⟩
theorem HksT.below {v : Value} {hs : List Hk} (h : HksT w v hs) (hb : Below w.heap.size w w') : HksT w' v hs := by
  obtain ⟨A, c, xs, e, h1, h2, h3⟩ := h
  exact ⟨A, c, xs, e, h1.below hb (Nat.le_refl _), h2.imp fun _ _ _ h => h.keeps (Keeps.below hb (Nat.le_refl _)), h3⟩
theorem OwnHks.rd {lo : Nat} {v : Value} {hs : List Hk} (h : OwnHks w lo v hs) : HksT w v hs := by
  obtain ⟨xs, h1, h2⟩ := h
  obtain ⟨A, c, rfl, h3⟩ := ownk_form h1
  exact ⟨A, c, xs, rfl, (Tr.own h1).wide (Nat.zero_le _), h2, h3⟩
theorem OwnHks.below {lo : Nat} {v : Value} {hs : List Hk} (h : OwnHks w lo v hs) (hb : Below w.heap.size w w') : OwnHks w' lo v hs := by
  obtain ⟨xs, h1, h2⟩ := h
  exact ⟨xs, ownk_below h1 hb (Nat.le_refl _), h2.imp fun _ _ _ h => h.keeps (Keeps.below hb (Nat.le_refl _))⟩
end
theorem PtT.len {w : World} {cs : List Value} {p : Pt} (h : PtT w cs p) : cs.length = 2 := by
  obtain ⟨v, rfl, _⟩ := h
  rfl
theorem PtT.one {w : World} {cs : List Value} {p : Pt} (h : PtT w cs p) : ∀ u ∈ cs, u.oneCell' = true := by
  obtain ⟨v, rfl, A, c, rfl, _⟩ := h
  intro u hu
  simp at hu
  rcases hu with rfl | rfl <;> rfl
theorem hkC_len {h : Hk} (hk : h.ok) (v : Value) : (hkC h v).length = 14 := by
  simp [hkC, cells_length, hk.2.1, hk.2.2.1]
theorem HkT.len {w : World} {cs : List Value} {h : Hk} (hh : HkT w cs h) : cs.length = 14 := by
  obtain ⟨v, rfl, h1, _⟩ := hh
  exact hkC_len h1 v
theorem HkT.one {w : World} {cs : List Value} {h : Hk} (hh : HkT w cs h) : ∀ u ∈ cs, u.oneCell' = true := by
  obtain ⟨v, rfl, _, A, c, xs, rfl, _⟩ := hh
  intro u hu
  simp only [hkC, List.mem_append, List.mem_cons, List.not_mem_nil, or_false] at hu
  rcases hu with (hu | hu) | rfl | rfl | rfl | rfl | rfl | rfl
  · exact cells_one _ u hu
  · exact cells_one _ u hu
  all_goals rfl
theorem HkT.ok {w : World} {cs : List Value} {h : Hk} (hh : HkT w cs h) : h.ok := by
  obtain ⟨v, _, h1, _⟩ := hh
  exact h1
/-- a hole's fields among its cells -/
theorem HkT.parts {w : World} {cs : List Value} {h : Hk} (hh : HkT w cs h) : ∃ A c xs, cs[8]? = some (.int .u8 (h.proto.toNat : Int)) ∧ cs[9]? = some (.int .u16 (h.id : Int)) ∧ cs[10]? = some (.int .u8 (h.ttl.toNat : Int)) ∧ cs[11]? = some (.int .u64 (h.since : Int)) ∧ cs[12]? = some (.int .i64 h.fin) ∧ cs[13]? = some (.slice A h.got.length c) ∧
    Tr w 0 128 A xs ∧ RowOf 2 (PtT w) xs h.got ∧ h.got.length ≤ c ∧ c ≤ maxLen ∧ (A = none → c = 0) := by
  obtain ⟨v, rfl, ho, A, c, xs, rfl, h1⟩ := hh
  obtain ⟨s0, s1, s2, s3, e1⟩ := four_of h.src ho.2.1
  obtain ⟨d0, d1, d2, d3, e2⟩ := four_of h.dst ho.2.2.1
  refine ⟨A, c, xs, ?_, ?_, ?_, ?_, ?_, ?_, h1⟩ <;> simp only [hkC, e1, e2] <;> rfl
theorem size_hk {cs : Array Value} (h : cs.size = 14) : (Try.prog.info? 109).map (·.size) = some cs.size := by
  rw [h]
  kernel_rfl
theorem size_pt {cs : Array Value} (h : cs.size = 2) : (Try.prog.info? 128).map (·.size) = some cs.size := by
  rw [h]
  kernel_rfl
theorem info_hk : (Try.prog.info? 109).map (fun i => (i.zero, i.size, i.bytes)) = some (some (.agg #[.int .u8 0, .int .u8 0, .int .u8 0, .int .u8 0, .int .u8 0, .int .u8 0, .int .u8 0, .int .u8 0, .int .u8 0, .int .u16 0, .int .u8 0, .int .u64 0, .int .i64 0, .slice none 0 0]), 14, 56) := by kernel_rfl
theorem info_pt : (Try.prog.info? 128).map (fun i => (i.zero, i.size, i.bytes)) = some (some (.agg #[.int .i64 0, .slice none 0 0]), 2, 32) := by kernel_rfl


abbrev ipv (x0 x1 x2 x3 : UInt8) : Array Value := #[.int .u8 (x0.toNat : Int), .int .u8 (x1.toNat : Int), .int .u8 (x2.toNat : Int), .int .u8 (x3.toNat : Int)]
theorem part_byte (xs : Array Value) (off : Nat) (v : Value) (h : xs[off]? = some v) (w : World) : (part 5 xs off).run Try.prog w = .ok v w := by
  have ha : (isAgg 5).run Try.prog w = .ok false w := by kernel_rfl
  unfold part
  simp [Sem.run_bind, ha, h]
theorem eq_byte (d : Nat) (x y : UInt8) (w : World) : (Op.equalIn (d + 1) 5 (.int .u8 (x.toNat : Int)) (.int .u8 (y.toNat : Int))).run Try.prog w = .ok (x == y) w := by
  rw [run_equalIn_int w d _ .u8 .u8 _ _ Try.underlying5]
  congr 1
  rw [Bool.eq_iff_iff, beq_iff_eq, beq_iff_eq]
  constructor
  · exact fun h => UInt8.toNat_inj.1 (Int.ofNat.inj h)
  · rintro rfl
    rfl
theorem eq_ip (d : Nat) (x0 x1 x2 x3 y0 y1 y2 y3 : UInt8) (w : World) :
    (Op.equalIn (d + 2) 28 (.agg (ipv x0 x1 x2 x3)) (.agg (ipv y0 y1 y2 y3))).run Try.prog w = .ok ((x0 == y0 && (x1 == y1 && (x2 == y2 && x3 == y3)))) w := by
  have hs : ∀ w, (Go.sizeOf 5).run Try.prog w = .ok 1 w := fun w => by kernel_rfl
  have p0 : ∀ (x0 x1 x2 x3 : UInt8) (w : World), (part 5 (ipv x0 x1 x2 x3) 0).run Try.prog w = .ok (.int .u8 (x0.toNat : Int)) w := fun x0 x1 x2 x3 w => part_byte _ _ _ rfl w
  have p1 : ∀ (x0 x1 x2 x3 : UInt8) (w : World), (part 5 (ipv x0 x1 x2 x3) 1).run Try.prog w = .ok (.int .u8 (x1.toNat : Int)) w := fun x0 x1 x2 x3 w => part_byte _ _ _ rfl w
  have p2 : ∀ (x0 x1 x2 x3 : UInt8) (w : World), (part 5 (ipv x0 x1 x2 x3) 2).run Try.prog w = .ok (.int .u8 (x2.toNat : Int)) w := fun x0 x1 x2 x3 w => part_byte _ _ _ rfl w
  have p3 : ∀ (x0 x1 x2 x3 : UInt8) (w : World), (part 5 (ipv x0 x1 x2 x3) 3).run Try.prog w = .ok (.int .u8 (x3.toNat : Int)) w := fun x0 x1 x2 x3 w => part_byte _ _ _ rfl w
  rw [show d + 2 = (d + 1) + 1 from rfl, Op.equalIn]
  simp only [Sem.run_bind, run_underlying Try.underlying28, Result.andThen_ok, hs]
  simp only [Std.Legacy.Range.forIn_eq_forIn_range', Std.Legacy.Range.size]
  simp [List.range', p0, p1, p2, p3, eq_byte]
  by_cases h0 : x0 = y0
  all_goals try simp [h0]
  by_cases h1 : x1 = y1
  all_goals try simp [h1]
  by_cases h2 : x2 = y2
  all_goals try simp [h2]
  by_cases h3 : x3 = y3
  all_goals try simp [h3]
theorem eqv_ip (d : Nat) (x0 x1 x2 x3 y0 y1 y2 y3 : UInt8) (v : Bool) (h : decide ([x0, x1, x2, x3] = [y0, y1, y2, y3]) = v) (w : World) :
    (Op.equalIn (d + 2) 28 (.agg (ipv x0 x1 x2 x3)) (.agg (ipv y0 y1 y2 y3))).run Try.prog w = .ok v w := by
  rw [eq_ip, ← h]
  congr 1
  rw [Bool.eq_iff_iff]
  simp
theorem texts_ne {s t : List UInt8} (h : s ≠ t) : (s == t) = false ∧ ((⟨s.toArray⟩ : ByteArray).toList == (⟨t.toArray⟩ : ByteArray).toList) = false := by
  have h1 : (s == t) = false := by rw [beq_eq_false_iff_ne]; exact h
  refine ⟨h1, ?_⟩
  rw [Lib.toList_data, Lib.toList_data]
  exact h1


set_option maxRecDepth 100000 in
set_option maxHeartbeats 400000 in
theorem old_any (ds : Array Value) (h : Hk) (now : Nat) (w : World) (h11 : ds[11]? = some (.int .u64 (h.since : Int))) (hs : h.since < 18446744073709551616) (hn : now < 18446744073709551616) :
    Calls Try.prog 74 #[.agg ds, .int .u64 (now : Int)] w fun e w' => e = .returned (.bool (oldB h now)) ∧ Below w.heap.size w w' := by
  have HB := Lib.hid ((Below.refl w.heap.size w).alloc (Nat.le_refl _) (.cells ds 109))
  have HE : Hid (oldB h now = decide (h.since ≤ now ∧ 30 ≤ now - h.since)) := rfl
  generalize h.since = s at *
  generalize oldB h now = r at *
  by_cases c1 : s ≤ now
  · obtain ⟨d, hd⟩ : ∃ d : Nat, now = s + d := ⟨now - s, by omega⟩
    have hw : IntKind.u64.wrap ((now : Int) - (s : Int)) = (d : Int) := by
      rw [show (now : Int) - (s : Int) = (d : Int) from by omega]
      exact IntWalk.u64_in _ ⟨by omega, by omega⟩
    have HV : Hid (r = decide (30 ≤ d)) := by
      show _ = _
      rw [HE.out]
      congr 1
      apply propext
      omega
    have hc2 : (s : Int) ≤ (now : Int) := by omega
    have HD := Lib.hid hd
    have h0 : (0 : Int) ≤ (now : Int) - (s : Int) := by omega
    clear hd HE c1
    go_enter Try.func74, Try.ntmps74
    go_wp2
    go_ret
    refine ⟨?_, HB.out⟩
    rw [HV.out]
    show Ending.returned (.bool (decide ((30 : Int) ≤ (d : Int)))) = _
    have : decide ((30 : Int) ≤ (d : Int)) = decide (30 ≤ d) := by
      congr 1
      apply propext
      omega
    rw [this]
  · have hc : decide ((s : Int) ≤ (now : Int)) = false := decide_eq_false (by omega)
    have hc2 : (now : Int) < (s : Int) := by omega
    have HV : Hid (r = false) := by
      show _ = _
      rw [HE.out]
      exact decide_eq_false (by omega)
    clear c1 HE
    go_enter Try.func74, Try.ntmps74
    go_wp2
    go_ret
    exact ⟨by rw [HV.out]; rfl, HB.out⟩

set_option maxRecDepth 100000 in
set_option maxHeartbeats 4000000 in
theorem belongs_lit (cs ds : Array Value) (id id' : Nat) (proto proto' s0 s1 s2 s3 d0 d1 d2 d3 s0' s1' s2' s3' d0' d1' d2' d3' : UInt8) (r : Bool) (w : World)
    (hr : r = decide ([s0, s1, s2, s3] = [s0', s1', s2', s3'] ∧ [d0, d1, d2, d3] = [d0', d1', d2', d3'] ∧ proto = proto' ∧ id = id'))
    (g0 : cs[0]? = some (.int .u16 (id : Int))) (g4 : cs[4]? = some (.int .u8 (proto.toNat : Int))) (g5 : cs[5]? = some (.int .u8 (s0.toNat : Int))) (g6 : cs[6]? = some (.int .u8 (s1.toNat : Int))) (g7 : cs[7]? = some (.int .u8 (s2.toNat : Int))) (g8 : cs[8]? = some (.int .u8 (s3.toNat : Int)))
    (g9 : cs[9]? = some (.int .u8 (d0.toNat : Int))) (g10 : cs[10]? = some (.int .u8 (d1.toNat : Int))) (g11 : cs[11]? = some (.int .u8 (d2.toNat : Int))) (g12 : cs[12]? = some (.int .u8 (d3.toNat : Int)))
    (k0 : ds[0]? = some (.int .u8 (s0'.toNat : Int))) (k1 : ds[1]? = some (.int .u8 (s1'.toNat : Int))) (k2 : ds[2]? = some (.int .u8 (s2'.toNat : Int))) (k3 : ds[3]? = some (.int .u8 (s3'.toNat : Int)))
    (k4 : ds[4]? = some (.int .u8 (d0'.toNat : Int))) (k5 : ds[5]? = some (.int .u8 (d1'.toNat : Int))) (k6 : ds[6]? = some (.int .u8 (d2'.toNat : Int))) (k7 : ds[7]? = some (.int .u8 (d3'.toNat : Int))) (k8 : ds[8]? = some (.int .u8 (proto'.toNat : Int))) (k9 : ds[9]? = some (.int .u16 (id' : Int))) :
    Calls Try.prog 58 #[.agg cs, .agg ds] w fun e w' => e = .returned (.bool r) ∧ Below w.heap.size w w' := by
  have HB := Lib.hid (((Below.refl w.heap.size w).alloc (Nat.le_refl _) (.cells cs 60)).alloc (by simp) (.cells ds 109))
  have HE := Lib.hid hr
  clear hr
  by_cases e1 : [s0, s1, s2, s3] = [s0', s1', s2', s3']
  · have q1 := eqv_ip 9998 s0 s1 s2 s3 s0' s1' s2' s3' true (decide_eq_true e1)
    by_cases e2 : [d0, d1, d2, d3] = [d0', d1', d2', d3']
    · have q2 := eqv_ip 9998 d0 d1 d2 d3 d0' d1' d2' d3' true (decide_eq_true e2)
      by_cases e3 : proto = proto'
      · have q3 := beqT (show (proto.toNat : Int) = (proto'.toNat : Int) from by rw [e3])
        by_cases e4 : id = id'
        · have q4 := beqT (show (id : Int) = (id' : Int) by omega)
          have HV := Lib.hid (HE.out.trans (decide_eq_true ⟨e1, e2, e3, e4⟩))
          clear e1 e2 e3 e4 HE
          go_enter Try.func58, Try.ntmps58
          go_wp2
          go_ret
          exact ⟨by rw [HV.out]; rfl, HB.out⟩
        · have q4 := beqF (show ¬ (id : Int) = (id' : Int) by omega)
          have HV := Lib.hid (HE.out.trans (decide_eq_false fun h => e4 h.2.2.2))
          clear e1 e2 e3 e4 HE
          go_enter Try.func58, Try.ntmps58
          go_wp2
          go_ret
          exact ⟨by rw [HV.out]; rfl, HB.out⟩
      · have q3 := beqF (show ¬ (proto.toNat : Int) = (proto'.toNat : Int) from (fun h => e3 (UInt8.toNat_inj.1 (Int.ofNat.inj h))))
        have HV := Lib.hid (HE.out.trans (decide_eq_false fun h => e3 h.2.2.1))
        clear e1 e2 e3 HE
        go_enter Try.func58, Try.ntmps58
        go_wp2
        go_ret
        exact ⟨by rw [HV.out]; rfl, HB.out⟩
    · have q2 := eqv_ip 9998 d0 d1 d2 d3 d0' d1' d2' d3' false (decide_eq_false e2)
      have HV := Lib.hid (HE.out.trans (decide_eq_false fun h => e2 h.2.1))
      clear e1 e2 HE
      go_enter Try.func58, Try.ntmps58
      go_wp2
      go_ret
      exact ⟨by rw [HV.out]; rfl, HB.out⟩
  · have q1 := eqv_ip 9998 s0 s1 s2 s3 s0' s1' s2' s3' false (decide_eq_false e1)
    have HV := Lib.hid (HE.out.trans (decide_eq_false fun h => e1 h.1))
    clear e1 HE
    go_enter Try.func58, Try.ntmps58
    go_wp2
    go_ret
    exact ⟨by rw [HV.out]; rfl, HB.out⟩

theorem belongs_any (cs ds : Array Value) (p : Pk) (h : Hk) (lo hi : Nat) (v : Value) (w : World) (hp : PkV w lo hi cs p) (hh : ds = (hkC h v).toArray) (hok : h.ok) :
    Calls Try.prog 58 #[.agg cs, .agg ds] w fun e w' => e = .returned (.bool (belongsB p h)) ∧ Below w.heap.size w w' := by
  obtain ⟨A, c, he, hpo, _⟩ := hp
  obtain ⟨id, mr, off, ttl, proto, src, dst, data⟩ := p
  obtain ⟨src', dst', proto', id', ttl', since', fin', got'⟩ := h
  obtain ⟨_, hs, hd⟩ := hpo
  obtain ⟨_, hs', hd', _⟩ := hok
  simp only at hs hd hs' hd' he hh
  obtain ⟨s0, s1, s2, s3, rfl⟩ := four_of src hs
  obtain ⟨d0, d1, d2, d3, rfl⟩ := four_of dst hd
  obtain ⟨s0', s1', s2', s3', rfl⟩ := four_of src' hs'
  obtain ⟨d0', d1', d2', d3', rfl⟩ := four_of dst' hd'
  exact belongs_lit cs ds id id' proto proto' s0 s1 s2 s3 d0 d1 d2 d3 s0' s1' s2' s3' d0' d1' d2' d3' _ w rfl (by subst he; rfl) (by subst he; rfl) (by subst he; rfl) (by subst he; rfl) (by subst he; rfl) (by subst he; rfl) (by subst he; rfl) (by subst he; rfl) (by subst he; rfl) (by subst he; rfl)
    (by subst hh; rfl) (by subst hh; rfl) (by subst hh; rfl) (by subst hh; rfl) (by subst hh; rfl) (by subst hh; rfl) (by subst hh; rfl) (by subst hh; rfl) (by subst hh; rfl) (by subst hh; rfl)


set_option maxRecDepth 100000 in
set_option maxHeartbeats 400000 in
theorem clonep_any (A : Option Addr) (xs : List Value) (n c : Nat) (ps : List Pt) (w : World) (h : Tr w 0 128 A xs) (hr : RowOf 2 (PtT w) xs ps) (hn : ps.length = n) (hA : A = none → c = 0) (hm : n ≤ 100000) :
    Calls Try.prog 80 #[.slice A n c] w fun e w' => ∃ v, e = .returned v ∧ w'.ownsRow w.heap.size 128 2 v n xs ∧ Below w.heap.size w w' := by
  obtain ⟨i0, hi0, hz0, hz1, hz2⟩ := info_parts info_pt
  have HR := Lib.hid h
  have HX := Lib.hid hr
  have HN := Lib.hid hn
  clear h hr hn
  have hnil := Lib.run_eql_slice_nil (P := Try.prog) w 107 128 A n c 0 0 Try.underlying107
  rcases A with _ | ad
  · have HL : Hid (xs = [] ∧ n = 0) := by
      have h1 : xs = [] := by
        rcases xs with _ | ⟨u, r⟩
        · rfl
        · obtain ⟨_, _, _, e, _⟩ := HR.out 0 u rfl
          cases e
      refine ⟨h1, ?_⟩
      have := HX.out.1
      rw [h1, HN.out] at this
      simp at this
      omega
    clear hA
    go_enter Try.func80, Try.ntmps80
    go_wp2
    go_ret
    exact ⟨_, rfl, by rw [HL.out.1, HL.out.2]; exact World.ownsRow_nil _ _ _ _, Below.refl _ _⟩
  · clear hA
    have HOW : Hid ((w.alloc (.cells #[] 128)).ownsRow w.heap.size 128 2 (.slice (some ⟨w.heap.size, 0, none⟩) 0 0) 0 []) := World.ownsRow_lit (base := w.heap.size) (e := 128) (size := 2) w #[] 0 (Nat.le_refl _) (Nat.zero_le _) rfl
    have HLX : Hid (xs.length = n * 2) := by show _ = _; rw [HX.out.1, HN.out]
    have H1X : Hid (∀ u ∈ xs, u.oneCell' = true) := HX.out.one_cell (fun _ _ h => h.one) (by decide)
    have HRX := Lib.hid (HR.out.alloc (.cells #[] 128)).rd
    have hz3 : (Value.agg #[.int .i64 0, .slice none 0 0]).cells.size = 2 := rfl
    go_enter Try.func80, Try.ntmps80
    go_wp2_with (at_builtin; refine wpList_append_rdk (P := Try.prog) rfl _ _ 107 rfl w.heap.size 128 i0 _ 2 32 Try.underlying107 hi0 hz0 hz1 hz2 hz3 (by omega) _ 0 [] rfl HOW.out (some ad) n c xs rfl (fun h => by cases h) HLX.out HRX.out H1X.out (by unfold maxLen; omega) (by omega) (by simp) ?_)
    intro v2 w2 hown2 hgrow2 _
    have HB : Hid (Below w.heap.size w w2) := ((Below.refl w.heap.size w).alloc (Nat.le_refl _) _).grown hgrow2 (by simp) fun g hg => by simp [Value.ownBlock] at hg; omega
    have HO : Hid (w2.ownsRow w.heap.size 128 2 v2 n xs) := hown2
    clear hown2 hgrow2
    go_wp2
    go_ret
    exact ⟨_, rfl, HO.out, HB.out⟩


theorem part_at {w : World} {xs : List Value} {ps : List Pt} {k : Nat} {pk : Pt} (h : RowOf 2 (PtT w) xs ps) (hk : ps[k]? = some pk) : ∃ v, xs[k * 2]? = some (.int .i64 pk.off) ∧ xs[k * 2 + 1]? = some v ∧ TB w 0 pk.data v := by
  obtain ⟨v, e, hb⟩ := h.2 k pk hk
  have e0 := congrArg (fun l => l[0]?) e
  have e1 := congrArg (fun l => l[1]?) e
  simp [List.getElem?_drop] at e0 e1
  exact ⟨v, e0, e1, hb⟩
theorem set_part (xs : List Value) (i : Nat) (u v : Value) (h0 : xs[i * 2]? = some u) (h1 : i * 2 + 1 < xs.length) : xs.set (i * 2 + 1) v = xs.take (i * 2) ++ [u, v] ++ xs.drop (i * 2 + 2) := by
  rw [List.set_eq_take_append_cons_drop, if_pos h1, List.take_succ_eq_append_getElem (by omega)]
  have : xs[i * 2]'(by omega) = u := by
    rw [List.getElem?_eq_getElem (by omega)] at h0
    injection h0
  rw [this]
  simp
/-- a block is written, all others stand -/
def SetS (g : Nat) (w w' : World) : Prop := (∃ C, w.heap[g]? = some (.cells C 128 (0, 0))) ∧ ∀ k, k ≠ g → w'.heap[k]? = w.heap[k]?
theorem TB.setS {w w' : World} {g lo : Nat} {l : List UInt8} {v : Value} (h : TB w lo l v) (hs : SetS g w w') : TB w' lo l v := by
  obtain ⟨⟨C, hC⟩, hk⟩ := hs
  refine h.keep fun A hA => hA.keep fun g' D _ hg' => hk g' fun he => ?_
  subst he
  rw [hC] at hg'
  injection hg' with hg'
  injection hg' with _ h2
  exact absurd h2 (by decide)
theorem rows_set {w w' : World} {g k : Nat} {xs : List Value} {ps : List Pt} {pk : Pt} {v : Value} (h : RowOf 2 (PtT w) xs ps) (hk : ps[k]? = some pk) (hv : TB w 0 pk.data v) (hs : SetS g w w') : RowOf 2 (PtT w') (xs.set (k * 2 + 1) v) ps := by
  obtain ⟨v0, e0, e1, _⟩ := part_at h hk
  have hlt := (List.getElem?_eq_some_iff.1 hk).1
  have h1 := (List.getElem?_eq_some_iff.1 e1).1
  rw [set_part xs k _ v e0 h1]
  have hr : RowOf 2 (PtT w') xs ps := h.imp fun cs p _ hp => by
    obtain ⟨u, e, hb⟩ := hp
    exact ⟨u, e, hb.setS hs⟩
  have := hr.set (i := k) (cs := [.int .i64 pk.off, v]) (a := pk) hlt ⟨v, rfl, hv.setS hs⟩ rfl
  have e : ps.set k pk = ps := by
    have : pk = ps[k] := by
      rw [List.getElem?_eq_getElem hlt] at hk
      injection hk with hk
      exact hk.symm
    rw [this, List.set_getElem_self]
  rwa [e] at this
def NewB (l : List UInt8) : Pred := fun v w => TB w 0 l v
theorem newb_mono (l : List UInt8) : Mono (NewB l) := fun _ _ _ hb h => TB.below h hb (Nat.le_refl _)
theorem newb_sg (g : Nat) (l : List UInt8) : StableG (SetS g) (NewB l) := fun _ _ _ hs h => TB.setS h hs
theorem hkS_13 {h : Hk} (hk : h.ok) (v0 v : Value) : (hkC h v0).toArray.setIfInBounds 13 v = (hkC h v).toArray := by
  obtain ⟨s0, s1, s2, s3, e1⟩ := four_of h.src hk.2.1
  obtain ⟨d0, d1, d2, d3, e2⟩ := four_of h.dst hk.2.2.1
  rw [List.setIfInBounds_toArray]
  simp only [hkC, e1, e2]
  rfl

set_option maxRecDepth 100000 in
set_option maxHeartbeats 4000000 in
theorem cloneh_any (cs : Array Value) (h : Hk) (w : World) (hh : HkT w cs.toList h) :
    Calls Try.prog 75 #[.agg cs] w fun e w' => ∃ ds, e = .returned (.agg ds) ∧ HkT w' ds.toList h ∧ Below w.heap.size w w' := by
  obtain ⟨A, c0, xs0, _, _, _, _, _, k13, htr, hrow, hlc, hcm, hA⟩ := hh.parts
  obtain ⟨v0, he, hok, _⟩ := hh
  obtain ⟨n, hn⟩ : ∃ n, h.got.length = n := ⟨_, rfl⟩
  rw [hn] at k13 hlc
  have HN := Lib.hid hn
  have hn1 : n ≤ 1000 := by rw [← hn]; exact hok.2.2.2.2.2.2.1
  have HCE : Hid (cs = (hkC h v0).toArray) := by show _ = _; rw [← he]
  have HOK := Lib.hid hok
  have HTR := Lib.hid htr
  have HRO := Lib.hid hrow
  have HA := Lib.hid hA
  rw [Array.getElem?_toList] at k13
  clear he hok hn htr hrow hlc hcm hA
  obtain ⟨C2, hC2⟩ : ∃ C2 : Array Value, C2 = #[.int .u8 0, .int .u8 0, .int .u8 0, .int .u8 0, .int .u8 0, .int .u8 0, .int .u8 0, .int .u8 0, .int .u8 0, .int .u16 0, .int .u8 0, .int .u64 0, .int .i64 0, .slice none 0 0] := ⟨_, rfl⟩
  have HC2 := Lib.hid hC2
  go_enter Try.func75, Try.ntmps75
  go_wp2_with fail
  rw [← hC2]
  have HB1 := Lib.hid (((Below.refl w.heap.size w).alloc (Nat.le_refl _) (.cells cs 109)).alloc (by simp) (.cells C2 109))
  have HG1 : Hid (((w.alloc (.cells cs 109)).alloc (.cells C2 109)).heap[w.heap.size]? = some (.cells cs 109 (0, 0))) := old_alloc (heap_alloc_new w _) _
  have HG2 : Hid (((w.alloc (.cells cs 109)).alloc (.cells C2 109)).heap[w.heap.size + 1]? = some (.cells C2 109 (0, 0))) := by
    have := heap_alloc_new (w.alloc (.cells cs 109)) (.cells C2 109)
    rwa [World.size_alloc] at this
  have HZ1 : Hid (((w.alloc (.cells cs 109)).alloc (.cells C2 109)).heap.size = w.heap.size + 2) := by show _ = _; simp
  clear hC2
  generalize (w.alloc (.cells cs 109)).alloc (.cells C2 109) = w1 at HB1 HG1 HG2 HZ1 ⊢
  refine (clonep_any A xs0 n c0 h.got w1 (HTR.out.below HB1.out (Nat.le_refl _)) (HRO.out.imp fun _ _ _ hp => hp.keeps (Keeps.below HB1.out (Nat.le_refl _))) HN.out HA.out (by omega)).mono ?_
  rintro e w2 ⟨v, rfl, hown, hb2⟩
  obtain ⟨A5, c5, rfl, hnc5, hcm5, hA5⟩ := ownk_form hown
  have hx1 := (hb2.block _ (row_lt HG1.out)).trans HG1.out
  have hc13 : w2.cell? ⟨w.heap.size, 13, none⟩ = some (.slice A n c0) := by rw [cell_of_row _ _ _ _ _ _ hx1]; exact k13
  have hf13 := frozen_of_row _ _ 13 _ _ hx1
  have hy := heap_setCell_same w2 w.heap.size 13 cs 109 (.slice A5 n c5) hx1
  rw [HCE.out, hkS_13 HOK.out] at hy
  obtain ⟨C1, hC1⟩ : ∃ C1, (hkC h (.slice A5 n c5)).toArray = C1 := ⟨_, rfl⟩
  rw [hC1] at hy
  have HY := Lib.hid hy
  have HC1 := Lib.hid hC1
  have HY2 : Hid ((w2.setCell ⟨w.heap.size, 13, none⟩ (.slice A5 n c5)).heap[w.heap.size + 1]? = some (.cells C2 109 (0, 0))) := (heap_setCell_other _ _ _ _ (by simp)).trans ((hb2.block _ (row_lt HG2.out)).trans HG2.out)
  have HBZ : Hid (Below w.heap.size w (w2.setCell ⟨w.heap.size, 13, none⟩ (.slice A5 n c5))) := (HB1.out.trans (hb2.mono HB1.out.size)).setCell (Nat.le_refl _) _
  have HOW : Hid ((w2.setCell ⟨w.heap.size, 13, none⟩ (.slice A5 n c5)).ownsRow (w.heap.size + 2) 128 2 (.slice A5 n c5) n xs0) := by
    have := HZ1.out
    rw [this] at hown
    exact ownk_setCell_other hown (fun b hb => by have := hown.lt b hb; simp only; omega) _
  have HRW : Hid (RowOf 2 (PtT (w2.setCell ⟨w.heap.size, 13, none⟩ (.slice A5 n c5))) xs0 h.got) := HRO.out.imp fun _ _ _ hp => (hp.keeps (Keeps.below HB1.out (Nat.le_refl _))).keeps (Keeps.trans (Keeps.below hb2 (Nat.le_refl _)) (Keeps.other hx1 (by decide) fun k hk => heap_setCell_other _ _ _ _ hk))
  have HS1 : Hid (C1.size = 14 ∧ C2.size = 14) := ⟨by rw [← hC1]; simpa using hkC_len HOK.out _, by rw [HC2.out]; rfl⟩
  have z13 : (w2.setCell ⟨w.heap.size, 13, none⟩ (.slice A5 n c5)).cell? ⟨w.heap.size, 13, none⟩ = some (.slice A5 n c5) := by
    have h1 : C1[13]? = some (.slice A5 n c5) := by
      obtain ⟨s0, s1, s2, s3, e1⟩ := four_of h.src HOK.out.2.1
      obtain ⟨d0, d1, d2, d3, e2⟩ := four_of h.dst HOK.out.2.2.1
      rw [← hC1, List.getElem?_toArray]
      simp only [hkC, e1, e2]
      rfl
    rw [cell_of_row _ _ _ _ _ _ HY.out]
    exact h1
  have HCA : Hid (n ≤ c5 ∧ c5 ≤ maxLen ∧ (A5 = none → c5 = 0)) := ⟨hnc5, hcm5, hA5⟩
  clear hown hb2 hnc5 hcm5 hA5 hx1 hy hC1
  go_wp2
  generalize w2.setCell ⟨w.heap.size, 13, none⟩ (.slice A5 n c5) = w3 at HY HY2 HBZ HOW HRW z13 ⊢
  clear hc13 hf13 z13
  go_loopw [11] (fun t11 wr => ∃ (k : Nat) (xs : List Value), k ≤ n ∧ t11 = .int .i64 (k : Int) ∧ Hid (wr.ownsRow (w.heap.size + 2) 128 2 (.slice A5 n c5) n xs) ∧ Hid (RowOf 2 (PtT wr) xs h.got) ∧ Hid (Below w.heap.size w wr) ∧ Hid (wr.heap[w.heap.size]? = some (.cells C1 109 (0, 0))) ∧ Hid (wr.heap[w.heap.size + 1]? = some (.cells C2 109 (0, 0)))) (fun t11 _ => n - (intOf t11).toNat)
  case atStart => exact ⟨0, xs0, Nat.zero_le _, rfl, HOW, HRW, HBZ, HY, HY2⟩
  case round =>
    obtain ⟨k, xs, hk, rfl, HOWN, HROW, HBEL, HBX, HBY⟩ := hrel
    by_cases hlt : k < n
    · obtain ⟨ps, hps⟩ : ∃ ps, h.got = ps := ⟨_, rfl⟩
      rw [hps] at HROW
      obtain ⟨pk, hpk⟩ : ∃ pk, ps[k]? = some pk := ⟨_, List.getElem?_eq_getElem (by rw [← hps, HN.out]; exact hlt)⟩
      obtain ⟨v, _, hvk, htb⟩ := part_at HROW.out hpk
      obtain ⟨A2, c2, rfl, _⟩ := htb
      obtain ⟨l, hl⟩ : ∃ l, pk.data = l := ⟨_, rfl⟩
      obtain ⟨m2, hm2⟩ : ∃ m2, l.length = m2 := ⟨_, rfl⟩
      rw [hl, hm2] at hvk
      have hm3 : m2 ≤ 1000 := by
        rw [← hm2, ← hl]
        exact (HOK.out.2.2.2.2.2.2.2 pk (by rw [hps]; exact List.mem_of_getElem? hpk)).2.2.1
      obtain ⟨g, cc, cur, hg, _⟩ := ownk_some HOWN.out (by omega)
      injection hg with hg1 hg2 hg3
      subst hg1 hg3
      have HPK := Lib.hid hpk
      have HVK := Lib.hid hvk
      have HDL := Lib.hid hl
      have HML := Lib.hid hm2
      have HPS := Lib.hid hps
      have H13 : Hid (C1[13]? = some (.slice (some ⟨g, 0, none⟩) n c5)) := by
        obtain ⟨s0, s1, s2, s3, e1⟩ := four_of h.src HOK.out.2.1
        obtain ⟨d0, d1, d2, d3, e2⟩ := four_of h.dst HOK.out.2.2.1
        show _ = _
        rw [← HC1.out, List.getElem?_toArray]
        simp only [hkC, e1, e2]
        rfl
      obtain ⟨B, hB⟩ : ∃ B, wr.heap.size = B := ⟨_, rfl⟩
      have HBS := Lib.hid hB
      clear hpk hvk hl hm2 hps hB
      go_wp2_with fail
      apply wp_region_relyG [12] (fun L w' => Below w.heap.size w w' ∧ w'.heap[w.heap.size]? = some (.cells C1 109 (0, 0)) ∧ B ≤ w'.heap.size ∧ w'.heap[w.heap.size + 1]? = some (.cells C2 109 (0, 0)) ∧ (L 12 = false → w'.ownsRow (w.heap.size + 2) 128 2 (.slice (some ⟨g, 0, none⟩) n c5) n xs ∧ RowOf 2 (PtT w') xs ps) ∧ (L 12 = true → ∃ xs', w'.ownsRow (w.heap.size + 2) 128 2 (.slice (some ⟨g, 0, none⟩) n c5) n xs' ∧ RowOf 2 (PtT w') xs' ps)) (RL [Is _, Is (.slice (some ⟨g, 0, none⟩) n c5), Is _, Is _, Is (.slice (some ⟨g, 0, none⟩) n c5), Is _, Is (.pointer (some ((⟨g, 0, none⟩ : Addr).add (k * 2)))), Is (.pointer (some ⟨g, k * 2 + 1, none⟩)), Is (.slice A2 m2 c2), NewB l, Is (.pointer (some ((⟨g, 0, none⟩ : Addr).add (k * 2)))), Is (.pointer (some ⟨g, k * 2 + 1, none⟩)), Any]) [false, false, false, false, false, false, false, false, false, false, false, false, false, false, true, true, true, true, true, true, true, true, true, true, true, true, false, false]
      · kernel_rfl
      · kernel_rfl
      · kernel_rfl
      · refine ⟨?_, ?_, ?_, ?_, ?_, ?_, ?_, ?_, ?_, ?_, ?_, ?_, ?_, trivial⟩
        · intro L ev w' hC hL hx K hK
          have e1 : ev (.tmp 1) = _ := hx.base 1 (by kernel_rfl)
          have HK := Lib.hid hK
          have HC := Lib.hid hC
          have HL := Lib.hid hL
          have HX := Lib.hid hx
          have hc := hx.cst
          skip
          clear hx hK hC hL
          unfold Run
          simp [execOp, Upon, go_sem, *]
          exact HK.out _ _ (.inl ⟨Below.refl _ _, by decide⟩) rfl
        · intro L ev w' hC hL hx K hK
          have e14 := hx.held 0 _ rfl (by kernel_rfl)
          change ev (.tmp 14) = _ at e14
          have HK := Lib.hid hK
          have HC := Lib.hid hC
          have HL := Lib.hid hL
          have HX := Lib.hid hx
          have hc := hx.cst
          skip
          clear hx hK hC hL
          have c13 := cell_of_row _ _ 13 _ _ _ HC.out.2.1
          rw [H13.out] at c13
          unfold Run
          simp [execOp, Upon, go_sem, *]
          exact HK.out _ _ (.inl ⟨Below.refl _ _, by decide⟩) rfl
        · intro L ev w' hC hL hx K hK
          have e3 : ev (.tmp 3) = _ := hx.base 3 (by kernel_rfl)
          have HK := Lib.hid hK
          have HC := Lib.hid hC
          have HL := Lib.hid hL
          have HX := Lib.hid hx
          have hc := hx.cst
          skip
          clear hx hK hC hL
          unfold Run
          simp [execOp, Upon, go_sem, *]
          exact HK.out _ _ (.inl ⟨Below.refl _ _, by decide⟩) rfl
        · intro L ev w' hC hL hx K hK
          have e1 : ev (.tmp 1) = _ := hx.base 1 (by kernel_rfl)
          have HK := Lib.hid hK
          have HC := Lib.hid hC
          have HL := Lib.hid hL
          have HX := Lib.hid hx
          have hc := hx.cst
          skip
          clear hx hK hC hL
          unfold Run
          simp [execOp, Upon, go_sem, *]
          exact HK.out _ _ (.inl ⟨Below.refl _ _, by decide⟩) rfl
        · intro L ev w' hC hL hx K hK
          have e17 := hx.held 3 _ rfl (by kernel_rfl)
          change ev (.tmp 17) = _ at e17
          have HK := Lib.hid hK
          have HC := Lib.hid hC
          have HL := Lib.hid hL
          have HX := Lib.hid hx
          have hc := hx.cst
          skip
          clear hx hK hC hL
          have c13 := cell_of_row _ _ 13 _ _ _ HC.out.2.1
          rw [H13.out] at c13
          unfold Run
          simp [execOp, Upon, go_sem, *]
          exact HK.out _ _ (.inl ⟨Below.refl _ _, by decide⟩) rfl
        · intro L ev w' hC hL hx K hK
          have e3 : ev (.tmp 3) = _ := hx.base 3 (by kernel_rfl)
          have HK := Lib.hid hK
          have HC := Lib.hid hC
          have HL := Lib.hid hL
          have HX := Lib.hid hx
          have hc := hx.cst
          skip
          clear hx hK hC hL
          unfold Run
          simp [execOp, Upon, go_sem, *]
          exact HK.out _ _ (.inl ⟨Below.refl _ _, by decide⟩) rfl
        · intro L ev w' hC hL hx K hK
          have e18 := hx.held 4 _ rfl (by kernel_rfl)
          have e19 := hx.held 5 _ rfl (by kernel_rfl)
          change ev (.tmp 18) = _ at e18
          change ev (.tmp 19) = _ at e19
          have HK := Lib.hid hK
          have HC := Lib.hid hC
          have HL := Lib.hid hL
          have HX := Lib.hid hx
          have hc := hx.cst
          skip
          clear hx hK hC hL
          unfold Run
          rw [run_indexE 107 _ _ rfl Try.underlying107 (size := 2) (by kernel_rfl) e18 e19 hlt]
          exact HK.out _ _ (.inl ⟨Below.refl _ _, by decide⟩) rfl
        · intro L ev w' hC hL hx K hK
          have e20 := hx.held 6 _ rfl (by kernel_rfl)
          change ev (.tmp 20) = _ at e20
          have HK := Lib.hid hK
          have HC := Lib.hid hC
          have HL := Lib.hid hL
          have HX := Lib.hid hx
          have hc := hx.cst
          skip
          clear hx hK hC hL
          have q1 : ev (.tmp 20) = .pointer (some ⟨g, k * 2, none⟩) := by rw [e20, Addr.add_mid, Nat.zero_add]
          unfold Run
          simp [execOp, Upon, go_sem, q1]
          exact HK.out _ _ (.inl ⟨Below.refl _ _, by decide⟩) rfl
        · intro L ev w' hC hL hx K hK
          have e21 := hx.held 7 _ rfl (by kernel_rfl)
          change ev (.tmp 21) = _ at e21
          have HK := Lib.hid hK
          have HC := Lib.hid hC
          have HL := Lib.hid hL
          have HX := Lib.hid hx
          have hc := hx.cst
          skip
          clear hx hK hC hL
          have hl12 : L 12 = false := Bool.eq_false_iff.2 fun h => by
            have h1 := HX.out.closed 12 _ 9 rfl h (by kernel_rfl)
            have h2 := HX.out.closed 9 _ 8 rfl h1 (by kernel_rfl)
            rw [HL.out] at h2
            cases h2
          have hcl := (HC.out.2.2.2.2.1 hl12).1.cellAt (k * 2 + 1) (by omega)
          rw [HVK.out] at hcl
          clear hl12
          unfold Run
          simp [execOp, Upon, go_sem, *]
          exact HK.out _ _ (.inl ⟨Below.refl _ _, by decide⟩) rfl
        · intro L ev w' hC hL hx K hK
          have e22 := hx.held 8 _ rfl (by kernel_rfl)
          change ev (.tmp 22) = _ at e22
          have HK := Lib.hid hK
          have HC := Lib.hid hC
          have HL := Lib.hid hL
          have HX := Lib.hid hx
          have hc := hx.cst
          have hf := hx.fn
          clear hx hK hC hL
          have hl12 : L 12 = false := Bool.eq_false_iff.2 fun h => by
            have h1 := HX.out.closed 12 _ 9 rfl h (by kernel_rfl)
            rw [HL.out] at h1
            cases h1
          obtain ⟨v2, _, hv2, htb⟩ := part_at (HC.out.2.2.2.2.1 hl12).2 HPK.out
          rw [HVK.out] at hv2
          injection hv2 with hv2
          subst hv2
          obtain ⟨A6, c6, hq6, htr6, _, _, hA6⟩ := htb
          rw [HDL.out, HML.out] at hq6
          injection hq6 with hq7 hq8 hq9
          subst hq7
          rw [HDL.out] at htr6
          have hcl := clone_any A2 l m2 c2 0 w'.heap.size w' htr6.rd HML.out (fun h => by have := rd_none htr6.rd h; have := HML.out; omega) (Nat.le_refl _) (by omega)
          clear hl12 htr6 hq9 hA6
          have HCL := Lib.hid hcl
          clear hcl
          unfold Run
          simp [execOp, Upon, go_sem, *]
          refine HCL.out.mono ?_
          rintro e w2 ⟨v, rfl, hv, hb⟩
          exact ⟨v, rfl, HK.out _ _ (.inl ⟨hb, by decide⟩) (hv.wide (Nat.zero_le _))⟩
        · intro L ev w' hC hL hx K hK
          have e15 := hx.held 1 _ rfl (by kernel_rfl)
          have e16 := hx.held 2 _ rfl (by kernel_rfl)
          change ev (.tmp 15) = _ at e15
          change ev (.tmp 16) = _ at e16
          have HK := Lib.hid hK
          have HC := Lib.hid hC
          have HL := Lib.hid hL
          have HX := Lib.hid hx
          have hc := hx.cst
          skip
          clear hx hK hC hL
          unfold Run
          rw [run_indexE 107 _ _ rfl Try.underlying107 (size := 2) (by kernel_rfl) e15 e16 hlt]
          exact HK.out _ _ (.inl ⟨Below.refl _ _, by decide⟩) rfl
        · intro L ev w' hC hL hx K hK
          have e24 := hx.held 10 _ rfl (by kernel_rfl)
          change ev (.tmp 24) = _ at e24
          have HK := Lib.hid hK
          have HC := Lib.hid hC
          have HL := Lib.hid hL
          have HX := Lib.hid hx
          have hc := hx.cst
          skip
          clear hx hK hC hL
          have q1 : ev (.tmp 24) = .pointer (some ⟨g, k * 2, none⟩) := by rw [e24, Addr.add_mid, Nat.zero_add]
          unfold Run
          simp [execOp, Upon, go_sem, q1]
          exact HK.out _ _ (.inl ⟨Below.refl _ _, by decide⟩) rfl
        · intro L ev w' hC hL hx K hK
          have e23 := hx.held 9 _ rfl (by kernel_rfl)
          have e25 := hx.held 11 _ rfl (by kernel_rfl)
          change (NewB l : Pred) (ev (.tmp 23)) _ at e23
          change ev (.tmp 25) = _ at e25
          have HK := Lib.hid hK
          have HC := Lib.hid hC
          have HL := Lib.hid hL
          have HX := Lib.hid hx
          have hc := hx.cst
          skip
          clear hx hK hC hL
          obtain ⟨hown, hrow⟩ := HC.out.2.2.2.2.1 HL.out
          obtain ⟨A5, c5, q23, t5, t6, t7, t8⟩ := e23
          rw [HML.out] at q23
          have hcl := hown.cellAt (k * 2 + 1) (by omega)
          rw [HVK.out] at hcl
          have hfz := hown.frozenAt (k * 2 + 1)
          have hrun := run_store_cell (P := Try.prog) w' g (k * 2 + 1) 24 (.slice A5 m2 c5) _ (by kernel_rfl) rfl rfl hcl hfz
          have hst := hown.stored (k * 2 + 1) (.slice A5 m2 c5)
          have hty := ownk_cells_of hown (g := g) rfl
          have HKE : Hid (SetS g w' (w'.setCell ⟨g, k * 2 + 1, none⟩ (.slice A5 m2 c5))) := ⟨hty, fun j hj => heap_setCell_other _ _ _ _ hj⟩
          have HTB : Hid (TB w' 0 l (.slice A5 m2 c5)) := ⟨A5, c5, by rw [HML.out], t5, t6, t7, t8⟩
          have HST := Lib.hid hst
          have HRW := Lib.hid hrow
          have HGG : Hid (w.heap.size + 2 ≤ g) := (hown.lt g rfl).1
          have HC1 := Lib.hid HC.out.1
          have HC2 := Lib.hid HC.out.2.1
          have HC3 := Lib.hid HC.out.2.2.1
          have HC4 := Lib.hid HC.out.2.2.2.1
          clear hown hrow hst hty t5 t6 t7 t8
          unfold Run
          rw [run_storeE 24 _ _ rfl e25 q23 hrun]
          refine HK.out _ _ (.inr ⟨⟨HC1.out.setCell (by have := HGG.out; simp only; omega) _, ?_, by simp; exact HC3.out, ?_, fun h => by simp [upd] at h, fun _ => ⟨_, HST.out.1, ?_⟩⟩, fun j hj hlj u hr => rl_sg (S := SetS g) (ex := [12]) 0 (by exact ⟨.inr (is_sg _ _), .inr (is_sg _ _), .inr (is_sg _ _), .inr (is_sg _ _), .inr (is_sg _ _), .inr (is_sg _ _), .inr (is_sg _ _), .inr (is_sg _ _), .inr (is_sg _ _), .inr (newb_sg _ _), .inr (is_sg _ _), .inr (is_sg _ _), .inl rfl, trivial⟩) j u _ _ (by rw [Nat.zero_add]; simp [hj]) HKE.out hr⟩) trivial
          · rw [heap_setCell_other _ _ _ _ (by have := HGG.out; simp only; omega)]
            exact HC2.out
          · rw [heap_setCell_other _ _ _ _ (by have := HGG.out; simp only; omega)]
            exact HC4.out
          · exact rows_set HRW.out HPK.out (by rw [HDL.out]; exact HTB.out) HKE.out
      · exact rl_mono ⟨is_mono _, is_mono _, is_mono _, is_mono _, is_mono _, is_mono _, is_mono _, is_mono _, is_mono _, newb_mono _, is_mono _, is_mono _, any_mono, trivial⟩
      · exact fun L L' w1 he h => ⟨h.1, h.2.1, h.2.2.1, h.2.2.2.1, fun hl => h.2.2.2.2.1 ((he 12 (by simp)).trans hl), fun hl => h.2.2.2.2.2 ((he 12 (by simp)).trans hl)⟩
      · exact fun L w1 w2 hb h => ⟨h.1.trans (hb.mono h.1.size), (hb.block _ (row_lt h.2.1)).trans h.2.1, Nat.le_trans h.2.2.1 hb.size, (hb.block _ (row_lt h.2.2.2.1)).trans h.2.2.2.1, fun hl => ⟨ownk_below (h.2.2.2.2.1 hl).1 hb (Nat.le_refl _), (h.2.2.2.2.1 hl).2.imp fun _ _ _ hp => hp.keeps (Keeps.below hb (Nat.le_refl _))⟩, fun hl => by obtain ⟨ys, h1, h2⟩ := h.2.2.2.2.2 hl; exact ⟨ys, ownk_below h1 hb (Nat.le_refl _), h2.imp fun _ _ _ hp => hp.keeps (Keeps.below hb (Nat.le_refl _))⟩⟩
      · exact ⟨HBEL.out, HBX.out, Nat.le_of_eq HBS.out.symm, HBY.out, fun _ => ⟨HOWN.out, HROW.out⟩, (fun h => by cases h)⟩
      · simp
      intro us wr hG hH
      obtain ⟨-, -, -, -, -, -, -, -, -, -, -, -, -, -⟩ := hH
      simp only [fillM]
      generalize us 14 = v14
      generalize us 15 = v15
      generalize us 16 = v16
      generalize us 17 = v17
      generalize us 18 = v18
      generalize us 19 = v19
      generalize us 20 = v20
      generalize us 21 = v21
      generalize us 22 = v22
      generalize us 23 = v23
      generalize us 24 = v24
      generalize us 25 = v25
      obtain ⟨g1, g2, _, g4, _, g5⟩ := hG
      obtain ⟨ys, o1, o2⟩ := g5 rfl
      have HB5 := Lib.hid g1
      have HX5 := Lib.hid g2
      have HY5 := Lib.hid g4
      have HO5 := Lib.hid o1
      have HR5 : Hid (RowOf 2 (PtT wr) ys h.got) := by rw [HPS.out]; exact o2
      clear g1 g2 g4 g5 o1 o2
      go_wp2
      go_roundw
      case rel => exact ⟨k + 1, ys, by omega, by go_num, HO5, HR5, HB5, HX5, HY5⟩
      case measure => simp [intOf]; omega
    · obtain rfl : k = n := by omega
      have HONE : Hid (C1.all (·.oneCell') = true) := by
        rw [← HC1.out]
        refine all_one fun u hu => ?_
        simp only [hkC, List.mem_append, List.mem_cons, List.not_mem_nil, or_false] at hu
        rcases hu with (hu | hu) | rfl | rfl | rfl | rfl | rfl | rfl
        · exact cells_one _ u hu
        · exact cells_one _ u hu
        all_goals rfl
      go_wp2_with (first | refine wpList_load_row rfl 109 _ rfl w.heap.size rfl 109 C1 (0, 0) _ HBX.out Try.underlying109 rfl (size_hk HS1.out.1) ?_ | refine wpList_store_row rfl 109 _ _ rfl (w.heap.size + 1) C1 rfl rfl 109 C2 HBY.out (size_hk HS1.out.1) (by rw [HS1.out.1, HS1.out.2]) HONE.out ?_)
      refine ret_one (g := w.heap.size + 1) rfl rfl (setRow_heap _ _ _ _ _ _ HBY.out) Try.underlying109 rfl (size_hk HS1.out.1) rfl ?_
      refine ⟨C1, rfl, ?_, below_setRow HBEL.out (by simp) _⟩
      have hkp : Keeps wr (wr.setRow (w.heap.size + 1) C1) := Keeps.other HBY.out (by decide) fun j hj => setRow_other _ _ _ _ hj
      refine ⟨.slice A5 k c5, by rw [← HC1.out], HOK.out, A5, c5, xs, by rw [HN.out], ?_, HROW.out.imp fun _ _ _ hp => hp.keeps hkp, by rw [HN.out]; exact HCA.out.1, HCA.out.2.1, HCA.out.2.2⟩
      exact ((Tr.own HOWN.out).wide (Nat.zero_le _)).keep fun j D _ hD => (hkp j D _ (.inr rfl) hD).trans hD.symm


theorem age_succ (hs : List Hk) (now k : Nat) (h : Hk) (hk : hs[k]? = some h) : ageP (hs.take (k + 1)) now = ageP (hs.take k) now ++ (if oldB h now = true then [] else [h]) := by
  have hlt := (List.getElem?_eq_some_iff.1 hk).1
  rw [List.take_succ_eq_append_getElem hlt]
  have e : hs[k] = h := (List.getElem?_eq_some_iff.1 hk).2
  rw [e]
  unfold ageP
  rw [List.filter_append]
  congr 1
  cases ho : oldB h now <;> simp [ho]
theorem age_le (hs : List Hk) (now k : Nat) : (ageP (hs.take k) now).length ≤ k := by
  unfold ageP
  exact Nat.le_trans (List.length_filter_le _ _) (List.length_take_le _ _)

set_option maxRecDepth 100000 in
set_option maxHeartbeats 4000000 in
theorem age_any (v : Value) (hs : List Hk) (now : Nat) (w : World) (hv : HksT w v hs) (hl : hs.length ≤ 1000) (hn : now < 18446744073709551616) :
    Calls Try.prog 53 #[v, .int .u64 (now : Int)] w fun e w' => ∃ v', e = .returned v' ∧ OwnHks w' w.heap.size v' (ageP hs now) ∧ Below w.heap.size w w' := by
  obtain ⟨A, c, xs, rfl, htr, hrow, _⟩ := hv
  obtain ⟨n, hnn⟩ : ∃ n, hs.length = n := ⟨_, rfl⟩
  rw [hnn] at hl ⊢
  have HN := Lib.hid hnn
  have HTR := Lib.hid htr
  have HROW := Lib.hid hrow
  have HNOW := Lib.hid hn
  obtain ⟨i0, hi0, hz0, hz1, hz2⟩ := info_parts info_hk
  have HI := Lib.hid (And.intro hi0 (And.intro hz0 (And.intro hz1 hz2)))
  clear hnn htr hrow hn hi0 hz0 hz1 hz2
  go_enter Try.func53, Try.ntmps53
  go_wp2
  go_loopw [5, 10] (fun t5 t10 wr => ∃ (k : Nat) (ys : List Value), k ≤ n ∧ t10 = .int .i64 (k : Int) ∧ Hid (wr.ownsRow w.heap.size 109 14 t5 (ageP (hs.take k) now).length ys) ∧ Hid (RowOf 14 (HkT wr) ys (ageP (hs.take k) now)) ∧ Hid (Below w.heap.size w wr)) (fun _ t10 _ => n - (intOf t10).toNat)
  case atStart => exact ⟨0, [], Nat.zero_le _, rfl, Lib.hid (World.ownsRow_nil _ _ _ _), Lib.hid RowOf.nil, Lib.hid (Below.refl _ _)⟩
  case round =>
    obtain ⟨k, ys, hk, rfl, HOWN, HRY, HBEL⟩ := hrel
    generalize u5 = v5 at HOWN ⊢
    by_cases hlt : k < n
    · obtain ⟨h, hh⟩ : ∃ h, hs[k]? = some h := ⟨_, List.getElem?_eq_getElem (by rw [HN.out]; exact hlt)⟩
      have hx := HTR.out.rd
      obtain ⟨ad, rfl⟩ : ∃ ad, A = some ad := by
        obtain ⟨ad, e, _⟩ := hx 0 _ (List.getElem?_eq_getElem (by rw [HROW.out.1, HN.out]; omega))
        exact ⟨ad, e⟩
      obtain ⟨ds, hds⟩ : ∃ ds, (xs.drop (k * 14)).take 14 = ds := ⟨_, rfl⟩
      have HH : Hid (HkT w ds h) := by rw [← hds]; exact HROW.out.2 k h hh
      have HEL : Hid (∀ j v, ds[j]? = some v → wr.cell? ((ad.add (k * 14)).add j) = some v) := by
        rw [← hds]
        exact ((hx.below HBEL.out (Nat.le_refl _)).elem k)
      have HAS := Lib.hid (age_succ hs now k h hh)
      have HLE := Lib.hid (age_le hs now k)
      clear hh hx hds
      go_wp2_with (first | refine wpList_load_at rfl 109 _ rfl (ad.add (k * 14)) rfl ds _ HEL.out Try.underlying109 rfl (by rw [HH.out.len]; kernel_rfl) ?_ | refine wpList_store_new rfl 109 _ _ rfl wr #[.int .u8 0, .int .u8 0, .int .u8 0, .int .u8 0, .int .u8 0, .int .u8 0, .int .u8 0, .int .u8 0, .int .u8 0, .int .u16 0, .int .u8 0, .int .u64 0, .int .i64 0, .slice none 0 0] ds.toArray rfl rfl (size_hk (by simpa using HH.out.len)) (by simp [HH.out.len]) (all_one HH.out.one) ?_ | refine wpList_load_row rfl 109 _ rfl wr.heap.size rfl 109 ds.toArray (0, 0) _ (heap_alloc_new wr _) Try.underlying109 rfl (size_hk (by simpa using HH.out.len)) ?_)
      obtain ⟨_, _, _, _, _, _, h11, _⟩ := HH.out.parts
      refine (old_any ds.toArray h now _ (by rw [List.getElem?_toArray]; exact h11) HH.out.ok.2.2.2.1 HNOW.out).mono ?_
      rintro e w2 ⟨rfl, hb2⟩
      obtain ⟨b, hb⟩ : ∃ b, wr.heap.size = b := ⟨_, rfl⟩
      have HX2 : Hid (w2.heap[b]? = some (.cells ds.toArray 109 (0, 0))) := by rw [← hb]; exact (hb2.block _ (by simp)).trans (heap_alloc_new wr _)
      have HKK := Lib.hid ((Keeps.below ((Below.refl wr.heap.size wr).alloc (Nat.le_refl _) (.cells ds.toArray 109)) (Nat.le_refl _)).trans (Keeps.below hb2 (Nat.le_refl _)))
      have HB2 := Lib.hid ((HBEL.out.alloc HBEL.out.size (.cells ds.toArray 109)).trans (hb2.mono (HBEL.out.alloc HBEL.out.size _).size))
      have HO2 := Lib.hid (ownk_below (HOWN.out.alloc (.cells ds.toArray 109)) hb2 (Nat.le_refl _))
      have HR2 : Hid (RowOf 14 (HkT w2) ys (ageP (hs.take k) now)) := HRY.out.imp fun _ _ _ hp => hp.keeps HKK.out
      have HH2 : Hid (HkT w2 ds h) := HH.out.keeps ((Keeps.below HBEL.out (Nat.le_refl _)).trans HKK.out)
      rw [hb]
      clear hb2 hb h11
      cases ho : oldB h now
      · have hsucc := HAS.out
        rw [ho, if_neg (by simp)] at hsucc
        have HS2 := Lib.hid hsucc
        clear hsucc ho
        go_wp2_with (refine wpList_load_row rfl 109 _ rfl b rfl 109 ds.toArray (0, 0) _ HX2.out Try.underlying109 rfl (size_hk (by simpa using HH.out.len)) ?_)
        refine (cloneh_any ds.toArray h w2 HH2.out).mono ?_
        rintro e w3 ⟨es, rfl, hes, hb3⟩
        have HES := Lib.hid hes
        have HSZ : Hid (es.size = 14) := by have := hes.len; show _ = _; simpa using this
        have HB3 := Lib.hid (HB2.out.trans (hb3.mono HB2.out.size))
        have HO3 := Lib.hid (ownk_below HO2.out hb3 (Nat.le_refl _))
        have HR3 : Hid (RowOf 14 (HkT w3) ys (ageP (hs.take k) now)) := HR2.out.imp fun _ _ _ hp => hp.keeps (Keeps.below hb3 (Nat.le_refl _))
        obtain ⟨j, hj⟩ : ∃ j, (ageP (hs.take k) now).length = j := ⟨_, rfl⟩
        have HJ := Lib.hid hj
        have hjk : j ≤ k := by rw [← hj]; exact HLE.out
        have HO4 : Hid (w3.ownsRow w.heap.size 109 14 v5 j ys) := by rw [← hj]; exact HO3.out
        obtain ⟨hi0, hz0, hz1, hz2⟩ := HI.out
        clear hes hb3 hj
        go_wp2_with (first | refine wpList_build_one rfl 61 109 _ rfl es rfl Try.underlying61 14 (by decide) (by decide) (by kernel_rfl) HSZ.out ?_ | (at_builtin; refine wpList_append_elem rfl _ _ 61 rfl w.heap.size 109 i0 _ 14 56 Try.underlying61 hi0 hz0 hz1 hz2 rfl (by decide) v5 j ys rfl (HO4.out.alloc _) w3.heap.size 1 es 109 (0, 0) rfl (heap_alloc_new w3 _) HSZ.out HES.out.one (by unfold maxLen; omega) (by omega) (by have := HB3.out.size; simp; omega) ?_; intro v6 w6 hown6 hgrow6 _; have HOW6 := Lib.hid hown6; have HGW6 := Lib.hid hgrow6; clear hown6 hgrow6))
        have HTY : Hid (∀ (g : Nat) (C : Array Value) (t : TypeId) (fr : Nat × Nat), v5.ownBlock = some g → (w3.alloc (.cells es 109)).heap[g]? = some (.cells C t fr) → t ≠ 5 ∧ t ≠ 128) := fun g C t fr he hh => by
          have := ownk_type (HO4.out.alloc (.cells es 109)) he hh
          subst this
          decide
        have HB6 : Hid (Below w.heap.size w w6) := (HB3.out.alloc HB3.out.size _).grown HGW6.out (by have := HB3.out.size; simp; omega) fun g hg => (HO4.out.lt g hg).1
        have hkp : Keeps w3 w6 := (Keeps.below ((Below.refl w3.heap.size w3).alloc (Nat.le_refl _) (.cells es 109)) (Nat.le_refl _)).trans (Keeps.grown HGW6.out HTY.out)
        have HR6 : Hid (RowOf 14 (HkT w6) (ys ++ es.toList) (ageP (hs.take (k + 1)) now)) := by
          rw [HS2.out]
          exact (HR3.out.imp fun _ _ _ hp => hp.keeps hkp).append (RowOf.one (HES.out.keeps hkp) (by simpa using HSZ.out))
        have HO6 : Hid (w6.ownsRow w.heap.size 109 14 v6 (ageP (hs.take (k + 1)) now).length (ys ++ es.toList)) := by
          rw [HS2.out, List.length_append, HJ.out]
          exact HOW6.out
        clear hi0 hz0 hz1 hz2 hkp
        go_wp2
        go_roundw
        case rel => exact ⟨k + 1, ys ++ es.toList, by omega, by go_num, HO6, HR6, HB6⟩
        case measure => simp [intOf]; omega
      · have hsucc := HAS.out
        rw [ho, if_pos rfl, List.append_nil] at hsucc
        have HO3 : Hid (w2.ownsRow w.heap.size 109 14 v5 (ageP (hs.take (k + 1)) now).length ys) := by rw [hsucc]; exact HO2.out
        have HR3 : Hid (RowOf 14 (HkT w2) ys (ageP (hs.take (k + 1)) now)) := by rw [hsucc]; exact HR2.out
        clear hsucc ho
        go_wp2
        go_roundw
        case rel => exact ⟨k + 1, ys, by omega, by go_num, HO3, HR3, HB2⟩
        case measure => simp [intOf]; omega
    · obtain rfl : k = n := by omega
      have HE : Hid (hs.take k = hs) := List.take_of_length_le (Nat.le_of_eq HN.out)
      go_wp2
      go_ret
      refine ⟨v5, rfl, ⟨ys, ?_, ?_⟩, HBEL.out⟩
      · have := HOWN.out; rw [HE.out] at this; exact this
      · have := HRY.out; rw [HE.out] at this; exact this


/-- the place of the first, -1 if there is none -/
def idxV {α : Type} (f : α → Bool) (l : List α) : Int := match l.findIdx? f with | some i => (i : Int) | none => -1
theorem idx_some {α : Type} {f : α → Bool} {l : List α} {k : Nat} {h : α} (hk : l[k]? = some h) (hf : f h = true) (hno : ∀ j h, j < k → l[j]? = some h → f h = false) : l.findIdx? f = some k := by
  have hlt := (List.getElem?_eq_some_iff.1 hk).1
  refine List.findIdx?_eq_some_iff_getElem.2 ⟨hlt, ?_, fun j hj => ?_⟩
  · rw [(List.getElem?_eq_some_iff.1 hk).2]
    exact hf
  · rw [hno j _ hj (List.getElem?_eq_getElem (by omega))]
    simp
theorem idx_none {α : Type} {f : α → Bool} {l : List α} (hno : ∀ j h, j < l.length → l[j]? = some h → f h = false) : l.findIdx? f = none := by
  refine List.findIdx?_eq_none_iff.2 fun x hx => ?_
  obtain ⟨j, hj, rfl⟩ := List.mem_iff_getElem.1 hx
  exact hno j _ hj (List.getElem?_eq_getElem hj)

set_option maxRecDepth 100000 in
set_option maxHeartbeats 400000 in
theorem pred_any (cs ds : Array Value) (p : Pk) (h : Hk) (lo hi b : Nat) (w : World) (hp : PkV w lo hi cs p) (hhi : hi ≤ w.heap.size) (hg : w.heap[b]? = some (.cells cs 60 (0, 0))) (hh : HkT w ds.toList h) :
    Calls Try.prog 57 #[.agg ds, .pointer (some ⟨b, 0, none⟩)] w fun e w' => e = .returned (.bool (belongsB p h)) ∧ Below w.heap.size w w' := by
  obtain ⟨v, he, hok, _⟩ := hh
  have HX := Lib.hid (old_alloc hg (.cells ds 109))
  have HN := Lib.hid (heap_alloc_new w (.cells ds 109))
  have HB := Lib.hid ((Below.refl w.heap.size w).alloc (Nat.le_refl _) (.cells ds 109))
  have HS1 : Hid (cs.size = 14) := hp.size
  have HS2 : Hid (ds.size = 14) := by show _ = _; rw [← Array.length_toList, he]; exact hkC_len hok v
  have HE : Hid (ds = (hkC h v).toArray) := by show _ = _; rw [← he]
  have HP := Lib.hid hp
  have HHI := Lib.hid hhi
  have HOK := Lib.hid hok
  clear hp hhi hg he hok
  go_enter Try.func57, Try.ntmps57
  go_wp2_with (first | refine wpList_load_row rfl 60 _ rfl b rfl 60 cs (0, 0) _ HX.out Try.underlying60 rfl (size_pk HS1.out) ?_ | refine wpList_load_row rfl 109 _ rfl w.heap.size rfl 109 ds (0, 0) _ HN.out Try.underlying109 rfl (size_hk HS2.out) ?_)
  refine (belongs_any cs ds p h lo hi v _ (HP.out.alloc HHI.out (.cells ds 109)) HE.out HOK.out).mono ?_
  rintro e w2 ⟨rfl, hb⟩
  have HB2 := Lib.hid (HB.out.trans (hb.mono HB.out.size))
  clear hb
  go_wp2
  go_ret
  exact ⟨rfl, HB2.out⟩

set_option maxRecDepth 100000 in
set_option maxHeartbeats 4000000 in
theorem index_any (v : Value) (hs : List Hk) (cs : Array Value) (p : Pk) (lo hi b : Nat) (w : World) (hv : HksT w v hs) (hl : hs.length ≤ 1000) (hp : PkV w lo hi cs p) (hhi : hi ≤ w.heap.size) (hg : w.heap[b]? = some (.cells cs 60 (0, 0))) :
    Calls Try.prog 56 #[v, .func (.func 57) #[] #[.pointer (some ⟨b, 0, none⟩)]] w fun e w' => e = .returned (.int .i64 (idxV (belongsB p) hs)) ∧ Below w.heap.size w w' := by
  obtain ⟨A, c, xs, rfl, htr, hrow, _⟩ := hv
  obtain ⟨n, hnn⟩ : ∃ n, hs.length = n := ⟨_, rfl⟩
  rw [hnn] at hl ⊢
  have HN := Lib.hid hnn
  have HTR := Lib.hid htr
  have HROW := Lib.hid hrow
  have HP := Lib.hid hp
  have HHI := Lib.hid hhi
  have HG := Lib.hid hg
  clear hnn htr hrow hp hhi hg
  go_enter Try.func56, Try.ntmps56
  go_wp2
  go_loopw [8] (fun t8 wr => ∃ k : Nat, k ≤ n ∧ t8 = .int .i64 (k : Int) ∧ Hid (∀ j h, j < k → hs[j]? = some h → belongsB p h = false) ∧ Hid (Below w.heap.size w wr)) (fun t8 _ => n - (intOf t8).toNat)
  case atStart => exact ⟨0, Nat.zero_le _, rfl, Lib.hid (fun j h hj => by omega), Lib.hid (Below.refl _ _)⟩
  case round =>
    obtain ⟨k, hk, rfl, HNO, HBEL⟩ := hrel
    by_cases hlt : k < n
    · obtain ⟨h, hh⟩ : ∃ h, hs[k]? = some h := ⟨_, List.getElem?_eq_getElem (by rw [HN.out]; exact hlt)⟩
      have hx := HTR.out.rd
      obtain ⟨ad, rfl⟩ : ∃ ad, A = some ad := by
        obtain ⟨ad, e, _⟩ := hx 0 _ (List.getElem?_eq_getElem (by rw [HROW.out.1, HN.out]; omega))
        exact ⟨ad, e⟩
      obtain ⟨ds, hds⟩ : ∃ ds, (xs.drop (k * 14)).take 14 = ds := ⟨_, rfl⟩
      have HH : Hid (HkT w ds h) := by rw [← hds]; exact HROW.out.2 k h hh
      have HEL : Hid (∀ j v, ds[j]? = some v → wr.cell? ((ad.add (k * 14)).add j) = some v) := by
        rw [← hds]
        exact ((hx.below HBEL.out (Nat.le_refl _)).elem k)
      have HHK := Lib.hid hh
      clear hh hx hds
      go_wp2_with (refine wpList_load_at rfl 109 _ rfl (ad.add (k * 14)) rfl ds _ HEL.out Try.underlying109 rfl (by rw [HH.out.len]; kernel_rfl) ?_)
      refine (pred_any cs ds.toArray p h lo hi b wr (HP.out.below HBEL.out HHI.out) (Nat.le_trans HHI.out HBEL.out.size) ((HBEL.out.block _ (row_lt HG.out)).trans HG.out) (HH.out.keeps (Keeps.below HBEL.out (Nat.le_refl _)))).mono ?_
      rintro e w2 ⟨rfl, hb⟩
      have HB2 := Lib.hid (HBEL.out.trans (hb.mono HBEL.out.size))
      clear hb
      cases hbl : belongsB p h
      · have HN2 : Hid (∀ j h, j < k + 1 → hs[j]? = some h → belongsB p h = false) := fun j h' hj hj2 => by
          by_cases hjk : j < k
          · exact HNO.out j h' hjk hj2
          · obtain rfl : j = k := by omega
            rw [HHK.out] at hj2
            injection hj2 with hj2
            rw [← hj2]
            exact hbl
        clear hbl
        go_wp2
        go_roundw
        case rel => exact ⟨k + 1, by omega, by go_num, HN2, HB2⟩
        case measure => simp [intOf]; omega
      · have HV : Hid (idxV (belongsB p) hs = (k : Int)) := by
          show _ = _
          unfold idxV
          rw [idx_some HHK.out hbl HNO.out]
        clear hbl
        go_wp2
        go_ret
        exact ⟨by rw [HV.out]; rfl, HB2.out⟩
    · obtain rfl : k = n := by omega
      have HV : Hid (idxV (belongsB p) hs = -1) := by
        show _ = _
        unfold idxV
        rw [idx_none fun j h hj hj2 => HNO.out j h (by rw [← HN.out]; exact hj) hj2]
      go_wp2
      go_ret
      exact ⟨by rw [HV.out]; rfl, HBEL.out⟩


set_option maxRecDepth 100000 in
set_option maxHeartbeats 4000000 in
theorem begin_any (cs : Array Value) (p : Pk) (lo hi now : Nat) (w : World) (h : PkV w lo hi cs p) (hn : now < 18446744073709551616) :
    Calls Try.prog 59 #[.agg cs, .int .u64 (now : Int)] w fun e w' => ∃ ds, e = .returned (.agg ds) ∧ HkT w' ds.toList (beginP p now) ∧ Below w.heap.size w w' := by
  obtain ⟨A, c, he, hok, _⟩ := h
  obtain ⟨id, mr, off, ttl, proto, src, dst, data⟩ := p
  have hok2 := hok
  obtain ⟨hid, hs, hd⟩ := hok
  simp only at hs hd he hid
  obtain ⟨s0, s1, s2, s3, rfl⟩ := four_of src hs
  obtain ⟨d0, d1, d2, d3, rfl⟩ := four_of dst hd
  simp only [pkC, cells, List.map_cons, List.map_nil, List.cons_append, List.nil_append] at he
  subst he
  have HID := Lib.hid hid
  have HNW := Lib.hid hn
  clear hok2 hs hd hid hn
  go_enter Try.func59, Try.ntmps59
  go_wp2
  refine ret_one (g := w.heap.size + 1) rfl rfl (t := 109) (fr := (0, 0)) (by have := heap_alloc_new (w.alloc (.cells #[.int .u16 (id : Int), .bool mr, .int .i64 off, .int .u8 (ttl.toNat : Int), .int .u8 (proto.toNat : Int), .int .u8 (s0.toNat : Int), .int .u8 (s1.toNat : Int), .int .u8 (s2.toNat : Int), .int .u8 (s3.toNat : Int), .int .u8 (d0.toNat : Int), .int .u8 (d1.toNat : Int), .int .u8 (d2.toNat : Int), .int .u8 (d3.toNat : Int), .slice A data.length c] 60)) (.cells (hkC (beginP ⟨id, mr, off, ttl, proto, [s0, s1, s2, s3], [d0, d1, d2, d3], data⟩ now) (.slice none 0 0)).toArray 109); rw [World.size_alloc] at this; exact this) Try.underlying109 rfl (by kernel_rfl) rfl ?_
  refine ⟨_, rfl, ⟨_, rfl, ⟨HID.out, rfl, rfl, HNW.out, (by show (-1 : Int) ≤ -1; decide), (by show (-1 : Int) ≤ 1000; decide), Nat.zero_le _, fun p hp => by cases hp⟩, none, 0, [], rfl, Tr.nil, RowOf.nil, Nat.le_refl _, Nat.zero_le _, fun _ => rfl⟩, ((Below.refl _ _).alloc (Nat.le_refl _) _).alloc (by simp) _⟩
end Go.Proofs.Ytjgdmkmfnkaoaaa.F
