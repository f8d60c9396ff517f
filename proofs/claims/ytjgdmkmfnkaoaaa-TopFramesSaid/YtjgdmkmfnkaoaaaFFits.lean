/-
  frag.whole and frag.packet: whether a hole is whole, and what it has become. Every hole that can be read. No condition.
-/
/-
  frag.packet: what a whole hole has become. Every hole with a part. No condition.
-/
/-
  frag.fits: whether a piece and what came of its packet can be parts of one; the function value that it hands to slices.ContainsFunc. Every piece and hole that can be read. No condition.
-/
/-
  frag.fits, all of it. Every piece and hole that can be read. No condition.
-/
import Derived.Test.YtjgdmkmfnkaoaaaFHk
import Derived.Deep.QuietTactic
import Derived.StillTailTactics
import Derived.Lib.QuietBelow
import Derived.BigQuiet
namespace Go.Proofs.Ytjgdmkmfnkaoaaa.F
open Go.RowKit

theorem first_part {w : World} {A : Option Addr} {xs : List Value} {a b : Value} (h : Tr w 0 128 A xs) (h0 : xs[0 * 2]? = some a) (h1 : xs[0 * 2 + 1]? = some b) (ob : Obj) : ∃ g o, A = some ⟨g, o, none⟩ ∧ (w.alloc ob).cell? ⟨g, o, none⟩ = some a ∧ (w.alloc ob).cell? ⟨g, o + 1, none⟩ = some b := by
  obtain ⟨g, o, C, rfl, _, hg, q0⟩ := h _ _ h0
  obtain ⟨g', o', C', e, _, hg', q1⟩ := h _ _ h1
  injection e with e
  injection e with e1 e2
  subst e1 e2
  rw [hg] at hg'
  injection hg' with hg'
  injection hg' with e3
  subst e3
  have hx := old_alloc hg ob
  exact ⟨g, o, rfl, by rw [cell_of_row _ _ _ _ _ _ hx]; simpa using q0, by rw [cell_of_row _ _ _ _ _ _ hx]; simpa using q1⟩

set_option maxRecDepth 100000 in
set_option maxHeartbeats 4000000 in
theorem whole_any (ds : Array Value) (h : Hk) (w : World) (hh : HkT w ds.toList h) :
    Calls Try.prog 63 #[.agg ds] w fun e w' => e = .returned (.bool (wholeB h)) ∧ Below w.heap.size w w' := by
  obtain ⟨A, c, xs, _, _, _, _, k12, k13, htr, hrow, hlc, hcm, _⟩ := hh.parts
  have hok := hh.ok
  rw [Array.getElem?_toList] at k12 k13
  obtain ⟨n, hn⟩ : ∃ n, h.got.length = n := ⟨_, rfl⟩
  rw [hn] at k13 hlc
  have hn1 : n ≤ 1000 := by rw [← hn]; exact hok.2.2.2.2.2.2.1
  have HB := Lib.hid ((Below.refl w.heap.size w).alloc (Nat.le_refl _) (.cells ds 109))
  by_cases h1 : n = 1
  · subst h1
    obtain ⟨t, ht⟩ : ∃ t, h.got = [t] := List.length_eq_one_iff.1 hn
    rw [ht] at hrow
    obtain ⟨v, e0, e1, A2, c2, rfl, _⟩ := part_at hrow (k := 0) (pk := t) rfl
    obtain ⟨g, oo, rfl, q0, q1⟩ := first_part htr e0 e1 (.cells ds 109)
    have hto : t.ok := hok.2.2.2.2.2.2.2 t (by rw [ht]; exact List.mem_singleton.2 rfl)
    have HW : Hid (wholeB h = (decide (t.off = 0) && decide ((t.data.length : Int) = h.fin))) := by show _ = _; unfold wholeB; rw [ht]
    obtain ⟨m, hm⟩ : ∃ m, t.data.length = m := ⟨_, rfl⟩
    rw [hm] at HW q1
    obtain ⟨o, ho⟩ : ∃ o, t.off = o := ⟨_, rfl⟩
    rw [ho] at HW q0
    obtain ⟨f, hf⟩ : ∃ f, h.fin = f := ⟨_, rfl⟩
    rw [hf] at HW k12
    have hm3 : m ≤ 1000 := by rw [← hm]; exact hto.2.2.1
    obtain ⟨r, hrr⟩ : ∃ r, wholeB h = r := ⟨_, rfl⟩
    rw [hrr] at HW ⊢
    clear hh htr hrow hok hto ht hm ho hf hrr e0 e1
    by_cases c1 : o = 0
    · have c1' : (o == 0) = true := beqT c1
      by_cases c2 : (m : Int) = f
      · have c2' : ((m : Int) == f) = true := beqT c2
        have HV : Hid (r = true) := by show _ = _; rw [HW.out]; simp [c1, c2]
        clear c1 c2 HW
        go_enter Try.func63, Try.ntmps63
        go_wp2_with fail
        go_quiet (fail)
        rename_i nq
        have HB2 := Lib.hid (below_drewN' HB.out nq)
        go_wp2
        go_ret
        exact ⟨by rw [HV.out]; rfl, HB2.out⟩
      · have c2' : ((m : Int) == f) = false := beqF c2
        have HV : Hid (r = false) := by show _ = _; rw [HW.out]; simp [c2]
        clear c1 c2 HW
        go_enter Try.func63, Try.ntmps63
        go_wp2_with fail
        go_quiet (fail)
        rename_i nq
        have HB2 := Lib.hid (below_drewN' HB.out nq)
        go_wp2
        go_ret
        exact ⟨by rw [HV.out]; rfl, HB2.out⟩
    · have c1' : (o == 0) = false := beqF c1
      have HV : Hid (r = false) := by show _ = _; rw [HW.out]; simp [c1]
      clear c1 HW
      go_enter Try.func63, Try.ntmps63
      go_wp2_with fail
      go_quiet (fail)
      rename_i nq
      have HB2 := Lib.hid (below_drewN' HB.out nq)
      go_wp2
      go_ret
      exact ⟨by rw [HV.out]; rfl, HB2.out⟩
  · have HV : Hid (wholeB h = false) := by
      show _ = _
      unfold wholeB
      match hg : h.got with
      | [] => rfl
      | [t] => rw [hg] at hn; simp at hn; omega
      | _ :: _ :: _ => rfl
    have c1' : ((n : Int) == 1) = false := beqF (by omega)
    clear hh htr hrow hok hn h1
    go_enter Try.func63, Try.ntmps63
    go_wp2_with fail
    go_quiet (fail)
    rename_i nq
    have HB2 := Lib.hid (below_drewN' HB.out nq)
    go_wp2
    go_ret
    exact ⟨by rw [HV.out]; rfl, HB2.out⟩


theorem first_here {w : World} {A : Option Addr} {xs : List Value} {a b : Value} (h : Tr w 0 128 A xs) (h0 : xs[0 * 2]? = some a) (h1 : xs[0 * 2 + 1]? = some b) : ∃ g o, A = some ⟨g, o, none⟩ ∧ g < w.heap.size ∧ w.cell? ⟨g, o, none⟩ = some a ∧ w.cell? ⟨g, o + 1, none⟩ = some b := by
  obtain ⟨g, o, C, rfl, _, hg, q0⟩ := h _ _ h0
  obtain ⟨g', o', C', e, _, hg', q1⟩ := h _ _ h1
  injection e with e
  injection e with e1 e2
  subst e1 e2
  rw [hg] at hg'
  injection hg' with hg'
  injection hg' with e3
  subst e3
  exact ⟨g, o, rfl, row_lt hg, by rw [cell_of_row _ _ _ _ _ _ hg]; simpa using q0, by rw [cell_of_row _ _ _ _ _ _ hg]; simpa using q1⟩

set_option maxRecDepth 100000 in
set_option maxHeartbeats 4000000 in
theorem packet_any (ds : Array Value) (h : Hk) (w : World) (hh : HkT w ds.toList h) (hg : 0 < h.got.length) :
    Calls Try.prog 64 #[.agg ds] w fun e w' => ∃ es, e = .returned (.agg es) ∧ PkT w' 0 es.toList (packetP h) ∧ Below w.heap.size w w' := by
  obtain ⟨v0, he, hok, A', c', xs, rfl, htr, hrow, _⟩ := hh
  obtain ⟨t, r, htl⟩ : ∃ t r, h.got = t :: r := by
    rcases hgt : h.got with _ | ⟨t, r⟩
    · rw [hgt] at hg; simp at hg
    · exact ⟨t, r, rfl⟩
  obtain ⟨v, e0, e1, A2, c2, rfl, htb⟩ := part_at hrow (k := 0) (pk := t) (by rw [htl]; rfl)
  obtain ⟨src, dst, proto, id, ttl, since, fin, got⟩ := h
  simp only at he hrow htl hg
  subst htl
  obtain ⟨hid, hs, hd, hsi, _⟩ := hok
  simp only at hs hd hid hsi
  obtain ⟨s0, s1, s2, s3, rfl⟩ := four_of src hs
  obtain ⟨d0, d1, d2, d3, rfl⟩ := four_of dst hd
  have he2 : ds = #[.int .u8 (s0.toNat : Int), .int .u8 (s1.toNat : Int), .int .u8 (s2.toNat : Int), .int .u8 (s3.toNat : Int), .int .u8 (d0.toNat : Int), .int .u8 (d1.toNat : Int), .int .u8 (d2.toNat : Int), .int .u8 (d3.toNat : Int), .int .u8 (proto.toNat : Int), .int .u16 (id : Int), .int .u8 (ttl.toNat : Int), .int .u64 (since : Int), .int .i64 fin, .slice A' (t :: r).length c'] := by
    apply Array.ext'
    rw [he]
    rfl
  subst he2
  obtain ⟨n, hn⟩ : ∃ n, (t :: r).length = n := ⟨_, rfl⟩
  have hn0 : 0 < n := by rw [← hn]; simp
  rw [hn]
  obtain ⟨m, hm⟩ : ∃ m, t.data.length = m := ⟨_, rfl⟩
  rw [hm] at e1
  have HM := Lib.hid hm
  have HTB : Hid (TB w 0 t.data (.slice A2 t.data.length c2)) := ⟨A2, c2, rfl, htb⟩
  have HID := Lib.hid hid
  have HTR := Lib.hid htr
  have HE0 := Lib.hid e0
  have HE1 := Lib.hid e1
  clear he hrow hg hs hd hid hsi hn hm htb htr e0 e1
  obtain ⟨g, oo, rfl, hgl, q0, q1⟩ := first_here HTR.out HE0.out HE1.out
  have HGL := Lib.hid hgl
  go_enter Try.func64, Try.ntmps64
  go_wp2_with fail
  obtain ⟨wq, hwq⟩ : ∃ wq, (w.alloc (.cells #[.int .u8 (s0.toNat : Int), .int .u8 (s1.toNat : Int), .int .u8 (s2.toNat : Int), .int .u8 (s3.toNat : Int), .int .u8 (d0.toNat : Int), .int .u8 (d1.toNat : Int), .int .u8 (d2.toNat : Int), .int .u8 (d3.toNat : Int), .int .u8 (proto.toNat : Int), .int .u16 (id : Int), .int .u8 (ttl.toNat : Int), .int .u64 (since : Int), .int .i64 fin, .slice (some ⟨g, oo, none⟩) n c'] 109)).alloc (.cells #[.int .u16 0, .bool false, .int .i64 0, .int .u8 0, .int .u8 0, .int .u8 0, .int .u8 0, .int .u8 0, .int .u8 0, .int .u8 0, .int .u8 0, .int .u8 0, .int .u8 0, .slice none 0 0] 60) = wq := ⟨_, rfl⟩
  have HBQ : Hid (Below w.heap.size w wq) := by rw [← hwq]; exact ((Below.refl _ _).alloc (Nat.le_refl _) _).alloc (by simp) _
  have hg1 : wq.heap[w.heap.size]? = some (.cells #[.int .u8 (s0.toNat : Int), .int .u8 (s1.toNat : Int), .int .u8 (s2.toNat : Int), .int .u8 (s3.toNat : Int), .int .u8 (d0.toNat : Int), .int .u8 (d1.toNat : Int), .int .u8 (d2.toNat : Int), .int .u8 (d3.toNat : Int), .int .u8 (proto.toNat : Int), .int .u16 (id : Int), .int .u8 (ttl.toNat : Int), .int .u64 (since : Int), .int .i64 fin, .slice (some ⟨g, oo, none⟩) n c'] 109 (0, 0)) := by rw [← hwq]; exact old_alloc (heap_alloc_new w _) _
  have hg2 : wq.heap[w.heap.size + 1]? = some (.cells #[.int .u16 0, .bool false, .int .i64 0, .int .u8 0, .int .u8 0, .int .u8 0, .int .u8 0, .int .u8 0, .int .u8 0, .int .u8 0, .int .u8 0, .int .u8 0, .int .u8 0, .slice none 0 0] 60 (0, 0)) := by
    have := heap_alloc_new (w.alloc (.cells #[.int .u8 (s0.toNat : Int), .int .u8 (s1.toNat : Int), .int .u8 (s2.toNat : Int), .int .u8 (s3.toNat : Int), .int .u8 (d0.toNat : Int), .int .u8 (d1.toNat : Int), .int .u8 (d2.toNat : Int), .int .u8 (d3.toNat : Int), .int .u8 (proto.toNat : Int), .int .u16 (id : Int), .int .u8 (ttl.toNat : Int), .int .u64 (since : Int), .int .i64 fin, .slice (some ⟨g, oo, none⟩) n c'] 109)) (.cells #[.int .u16 0, .bool false, .int .i64 0, .int .u8 0, .int .u8 0, .int .u8 0, .int .u8 0, .int .u8 0, .int .u8 0, .int .u8 0, .int .u8 0, .int .u8 0, .int .u8 0, .slice none 0 0] 60)
    rw [World.size_alloc] at this
    rw [← hwq]
    exact this
  have HG2 := Lib.hid hg2
  have z := fun j => cell_of_row wq w.heap.size j _ _ _ hg1
  have z0 := z 0
  have z1 := z 1
  have z2 := z 2
  have z3 := z 3
  have z4 := z 4
  have z5 := z 5
  have z6 := z 6
  have z7 := z 7
  have z8 := z 8
  have z9 := z 9
  have z10 := z 10
  have z13 := z 13
  simp at z0 z1 z2 z3 z4 z5 z6 z7 z8 z9 z10 z13
  have y0 : wq.cell? ⟨g, oo, none⟩ = _ := (HBQ.out.cell (p := ⟨g, oo, none⟩) hgl).trans q0
  have y1 : wq.cell? ⟨g, oo + 1, none⟩ = _ := (HBQ.out.cell (p := ⟨g, oo + 1, none⟩) hgl).trans q1
  rw [hwq]
  clear hwq hg1 hg2 z q0 q1 hgl
  go_still_tail 16, (by kernel_rfl)
  change wpList _ _ _ _ _ wq.drew
  have HBD : Hid (Below w.heap.size w wq.drew) := HBQ.out.drew
  have HGD : Hid (wq.drew.heap[w.heap.size + 1]? = some (.cells #[.int .u16 0, .bool false, .int .i64 0, .int .u8 0, .int .u8 0, .int .u8 0, .int .u8 0, .int .u8 0, .int .u8 0, .int .u8 0, .int .u8 0, .int .u8 0, .int .u8 0, .slice none 0 0] 60 (0, 0))) := HG2.out
  have HTB2 := Lib.hid (HTB.out.below HBD.out (Nat.le_refl _))
  generalize wq.drew = w2 at HBD HGD HTB2 ⊢
  have HONE : Hid ((#[.int .u16 (id : Int), .bool false, .int .i64 0, .int .u8 (ttl.toNat : Int), .int .u8 (proto.toNat : Int), .int .u8 (s0.toNat : Int), .int .u8 (s1.toNat : Int), .int .u8 (s2.toNat : Int), .int .u8 (s3.toNat : Int), .int .u8 (d0.toNat : Int), .int .u8 (d1.toNat : Int), .int .u8 (d2.toNat : Int), .int .u8 (d3.toNat : Int), .slice A2 m c2] : Array Value).all (·.oneCell') = true) := all_one (pkC_one ⟨id, false, 0, ttl, proto, [s0, s1, s2, s3], [d0, d1, d2, d3], []⟩ (.slice A2 m c2) rfl)
  go_wp2_with (refine wpList_store_row rfl 60 _ _ rfl (w.heap.size + 1) #[.int .u16 (id : Int), .bool false, .int .i64 0, .int .u8 (ttl.toNat : Int), .int .u8 (proto.toNat : Int), .int .u8 (s0.toNat : Int), .int .u8 (s1.toNat : Int), .int .u8 (s2.toNat : Int), .int .u8 (s3.toNat : Int), .int .u8 (d0.toNat : Int), .int .u8 (d1.toNat : Int), .int .u8 (d2.toNat : Int), .int .u8 (d3.toNat : Int), .slice A2 m c2] rfl rfl _ _ HGD.out (by kernel_rfl) rfl HONE.out ?_)
  (try simp only [Exit.inBlock, Exit.then])
  refine ret_one (g := w.heap.size + 1) rfl rfl (setRow_heap w2 _ _ _ _ _ HGD.out) Try.underlying60 rfl (by kernel_rfl) rfl ?_
  refine ⟨_, rfl, ⟨.slice A2 m c2, rfl, ⟨HID.out, rfl, rfl⟩, ⟨by show (-9223372036854775808 : Int) ≤ 0; decide, by show (0 : Int) ≤ 9223372036854775807; decide⟩, ?_⟩, below_setRow HBD.out (by omega) _⟩
  have := HTB2.out
  rw [HM.out] at this
  exact this.keep fun A h => h.setRow HGD.out (by decide) _


theorem quiet_load_row {P : Program} {ops : Array Oper} {C : World → Prop} {K : Act → Prop} {o : Oper} {a : Act} (hg : Region.wanted o (yielded ops a.tmps) = true) (ty : TypeId) (x : Operand) (ho : o.op = .load ty x) (g : Nat) (hx : a.eval x = .pointer (some ⟨g, 0, none⟩)) (t : TypeId) (cs : Array Value) (fr : Nat × Nat) (d : TypeDesc)
    (hgg : ∀ w, C w → w.heap[g]? = some (.cells cs t fr)) (hu : P.underlying ty = some d) (hd : d.isRow = true) (hi : (P.info? ty).map (·.size) = some cs.size) (h : K (a.put o.dst (.agg cs))) :
    if Region.wanted o (yielded ops a.tmps) = true then o.quiet P a C K else K (a.put o.dst undef) := by
  rw [if_pos hg]
  refine ⟨.agg cs, fun w hw => ?_, h⟩
  have hl := run_loadVar_row (P := P) w g t ty cs fr d (hgg w hw) hu (by cases d <;> first | rfl | cases hd) hi
  unfold Oper.quietAt execOp
  simp only [ho, hx, Instr.loadAt, Instr.sureAddr, Sem.run_bind, Sem.run_pure, Result.andThen_ok, hl]
  exact ⟨rfl, rfl⟩
theorem row_regrown {w : World} {g : Nat} {o : Obj} (h : w.heap[g]? = some o) (d : Nat) (os : Array Obj) : (Sort.grow (redrawn w d) os).heap[g]? = some o := ((below_regrown w d os).block g (row_lt h)).trans h

set_option maxRecDepth 100000 in
set_option maxHeartbeats 4000000 in
theorem further_any (cs ds : Array Value) (p : Pk) (t : Pt) (lo hi b : Nat) (w : World) (hp : PkV w lo hi cs p) (hhi : hi ≤ w.heap.size) (hg : w.heap[b]? = some (.cells cs 60 (0, 0))) (h0 : 0 ≤ p.off) (h1 : p.off ≤ 1000) (hm : p.data.length ≤ 1000000000) (hh : PtT w ds.toList t) (hto : t.ok) :
    Calls Try.prog 76 #[.agg ds, .pointer (some ⟨b, 0, none⟩)] w fun e w' => e = .returned (.bool (furtherB p t)) ∧ Below w.heap.size w w' := by
  obtain ⟨v, he, A2, c2, rfl, _⟩ := hh
  have HF : Hid (furtherB p t = decide (endP p - (t.data.length : Int) < t.off)) := rfl
  have hE : 0 ≤ endP p ∧ endP p ≤ 1000001000 := by unfold endP; omega
  obtain ⟨E, hEE⟩ : ∃ E, endP p = E := ⟨_, rfl⟩
  obtain ⟨hto0, hto1, hto2, _⟩ := hto
  obtain ⟨m, hmm⟩ : ∃ m, t.data.length = m := ⟨_, rfl⟩
  obtain ⟨o, hoo⟩ : ∃ o, t.off = o := ⟨_, rfl⟩
  rw [hmm, hoo] at he
  rw [hEE, hmm, hoo] at HF
  rw [hEE] at hE
  rw [hmm] at hto2
  rw [hoo] at hto0 hto1
  have HEE := Lib.hid hEE
  have he2 : ds = #[.int .i64 o, .slice A2 m c2] := by
    apply Array.ext'
    rw [he]
  subst he2
  obtain ⟨hE0, hE1⟩ := hE
  obtain ⟨w6, hw6⟩ : ∃ w6, w.alloc (.cells #[.int .i64 o, .slice A2 m c2] 128) = w6 := ⟨_, rfl⟩
  have HB6 : Hid (Below w.heap.size w w6) := by rw [← hw6]; exact (Below.refl _ _).alloc (Nat.le_refl _) _
  have hx : w6.heap[b]? = some (.cells cs 60 (0, 0)) := by rw [← hw6]; exact old_alloc hg _
  have hy : w6.heap[w.heap.size]? = some (.cells #[.int .i64 o, .slice A2 m c2] 128 (0, 0)) := by rw [← hw6]; exact heap_alloc_new w _
  have z0 := cell_of_row w6 w.heap.size 0 _ _ _ hy
  have z1 := cell_of_row w6 w.heap.size 1 _ _ _ hy
  simp at z0 z1
  have k0 := cell_regrown z0
  have k1 := cell_regrown z1
  have kg : ∀ w', (∃ p : Regrown, w' = Sort.grow (redrawn w6 p.d) p.os) → w'.heap[b]? = some (.cells cs 60 (0, 0)) := fun w' ⟨q, hq⟩ => by rw [hq]; exact row_regrown hx _ _
  have KG := Lib.hid kg
  have hcs : ∀ d os, Calls Try.prog 54 #[.agg cs] (Sort.grow (redrawn w6 d) os) fun e w'' => e = .returned (.int .i64 E) ∧ ∃ p : Regrown, w'' = Sort.grow (redrawn w6 p.d) p.os := fun d os => by
    rw [← HEE.out]
    exact Calls.regrown_of (end_any cs p lo hi _ ((hp.below HB6.out hhi).below (below_regrown w6 d os) (Nat.le_trans hhi HB6.out.size)) h0 h1 hm)
  have HCS := Lib.hid hcs
  have HS1 : Hid (cs.size = 14) := hp.size
  have hwr : IntKind.i64.wrap (E - (m : Int)) = E - (m : Int) := IntWalk.i64_in _ ⟨by omega, by omega⟩
  clear hp hg hEE hmm hoo he hx hy z0 z1 kg hcs hm h0 h1
  go_enter Try.func76, Try.ntmps76
  go_wp2_with fail
  (try rw [hw6])
  clear hw6
  refine wp_region_quiet_below (by kernel_rfl) (by kernel_rfl) ?_
  repeat (first | (refine wpQuiet_step (fun K hK => ?_); refine quiet_load_row (by rfl) 60 _ rfl b rfl _ cs _ _ KG.out Try.underlying60 rfl (size_pk HS1.out) ?_; refine hK _ ?_; clear hK K) | quiet_step (first | (go_at_call 54; exact HCS.out _ _)))
  refine wpQuiet_nil ?_
  intro _ hw'
  obtain ⟨⟨dq, osq⟩, hw''⟩ := hw'
  subst hw''
  have HB := Lib.hid (HB6.out.trans ((below_regrown w6 dq osq).mono HB6.out.size))
  go_wp2
  go_ret
  exact ⟨by rw [HF.out]; rfl, HB.out⟩
set_option maxRecDepth 100000 in
set_option maxHeartbeats 4000000 in
theorem indexp_any (v : Value) (hs : List Pt) (cs : Array Value) (p : Pk) (lo hi b : Nat) (w : World) (hv : PtsT w v hs) (hl : hs.length ≤ 1000) (hok : ∀ t ∈ hs, t.ok) (h0 : 0 ≤ p.off) (h1 : p.off ≤ 1000) (hm : p.data.length ≤ 1000000000) (hp : PkV w lo hi cs p) (hhi : hi ≤ w.heap.size) (hg : w.heap[b]? = some (.cells cs 60 (0, 0))) :
    Calls Try.prog 81 #[v, .func (.func 76) #[] #[.pointer (some ⟨b, 0, none⟩)]] w fun e w' => e = .returned (.int .i64 (idxV (furtherB p) hs)) ∧ Below w.heap.size w w' := by
  obtain ⟨A, c, xs, rfl, htr, hrow, _⟩ := hv
  obtain ⟨n, hnn⟩ : ∃ n, hs.length = n := ⟨_, rfl⟩
  rw [hnn] at hl ⊢
  have HN := Lib.hid hnn
  have HTR := Lib.hid htr
  have HROW := Lib.hid hrow
  have HP := Lib.hid hp
  have HHI := Lib.hid hhi
  have HG := Lib.hid hg
  have HOK := Lib.hid hok
  have H01 := Lib.hid (And.intro h0 (And.intro h1 hm))
  clear hnn htr hrow hp hhi hg hok h0 h1 hm
  go_enter Try.func81, Try.ntmps81
  go_wp2
  go_loopw [8] (fun t8 wr => ∃ k : Nat, k ≤ n ∧ t8 = .int .i64 (k : Int) ∧ Hid (∀ j h, j < k → hs[j]? = some h → furtherB p h = false) ∧ Hid (Below w.heap.size w wr)) (fun t8 _ => n - (intOf t8).toNat)
  case atStart => exact ⟨0, Nat.zero_le _, rfl, Lib.hid (fun j h hj => by omega), Lib.hid (Below.refl _ _)⟩
  case round =>
    obtain ⟨k, hk, rfl, HNO, HBEL⟩ := hrel
    by_cases hlt : k < n
    · obtain ⟨h, hh⟩ : ∃ h, hs[k]? = some h := ⟨_, List.getElem?_eq_getElem (by rw [HN.out]; exact hlt)⟩
      have hx := HTR.out.rd
      obtain ⟨ad, rfl⟩ : ∃ ad, A = some ad := by
        obtain ⟨ad, e, _⟩ := hx 0 _ (List.getElem?_eq_getElem (by rw [HROW.out.1, HN.out]; omega))
        exact ⟨ad, e⟩
      obtain ⟨ds, hds⟩ : ∃ ds, (xs.drop (k * 2)).take 2 = ds := ⟨_, rfl⟩
      have HH : Hid (PtT w ds h) := by rw [← hds]; exact HROW.out.2 k h hh
      have HEL : Hid (∀ j v, ds[j]? = some v → wr.cell? ((ad.add (k * 2)).add j) = some v) := by
        rw [← hds]
        exact ((hx.below HBEL.out (Nat.le_refl _)).elem k)
      have HHK := Lib.hid hh
      clear hh hx hds
      go_wp2_with (refine wpList_load_at rfl 128 _ rfl (ad.add (k * 2)) rfl ds _ HEL.out Try.underlying128 rfl (by rw [HH.out.len]; kernel_rfl) ?_)
      refine (further_any cs ds.toArray p h lo hi b wr (HP.out.below HBEL.out HHI.out) (Nat.le_trans HHI.out HBEL.out.size) ((HBEL.out.block _ (row_lt HG.out)).trans HG.out) H01.out.1 H01.out.2.1 H01.out.2.2 (HH.out.keeps (Keeps.below HBEL.out (Nat.le_refl _))) (HOK.out h (List.mem_of_getElem? HHK.out))).mono ?_
      rintro e w2 ⟨rfl, hb⟩
      have HB2 := Lib.hid (HBEL.out.trans (hb.mono HBEL.out.size))
      clear hb
      cases hbl : furtherB p h
      · have HN2 : Hid (∀ j h, j < k + 1 → hs[j]? = some h → furtherB p h = false) := fun j h' hj hj2 => by
          by_cases hjk : j < k
          · exact HNO.out j h' hjk hj2
          · obtain rfl : j = k := by omega
            rw [HHK.out] at hj2
            injection hj2 with hj2
            rw [← hj2]
            exact hbl
        clear hbl
        go_wp2
        go_roundw
        case rel => exact ⟨k + 1, by omega, by go_num, HN2, HB2⟩
        case measure => simp [intOf]; omega
      · have HV : Hid (idxV (furtherB p) hs = (k : Int)) := by
          show _ = _
          unfold idxV
          rw [idx_some HHK.out hbl HNO.out]
        clear hbl
        go_wp2
        go_ret
        exact ⟨by rw [HV.out]; rfl, HB2.out⟩
    · obtain rfl : k = n := by omega
      have HV : Hid (idxV (furtherB p) hs = -1) := by
        show _ = _
        unfold idxV
        rw [idx_none fun j h hj hj2 => HNO.out j h (by rw [← HN.out]; exact hj) hj2]
      go_wp2
      go_ret
      exact ⟨by rw [HV.out]; rfl, HBEL.out⟩
set_option maxRecDepth 100000 in
set_option maxHeartbeats 400000 in
theorem contains_any (v : Value) (hs : List Pt) (cs : Array Value) (p : Pk) (lo hi b : Nat) (w : World) (hv : PtsT w v hs) (hl : hs.length ≤ 1000) (hok : ∀ t ∈ hs, t.ok) (h0 : 0 ≤ p.off) (h1 : p.off ≤ 1000) (hm : p.data.length ≤ 1000000000) (hp : PkV w lo hi cs p) (hhi : hi ≤ w.heap.size) (hg : w.heap[b]? = some (.cells cs 60 (0, 0))) :
    Calls Try.prog 77 #[v, .func (.func 76) #[] #[.pointer (some ⟨b, 0, none⟩)]] w fun e w' => e = .returned (.bool (hs.any (furtherB p))) ∧ Below w.heap.size w w' := by
  have HC := Lib.hid (indexp_any v hs cs p lo hi b w hv hl hok h0 h1 hm hp hhi hg)
  have HV : Hid (decide (0 ≤ idxV (furtherB p) hs) = hs.any (furtherB p)) := by
    show _ = _
    unfold idxV
    cases hi : hs.findIdx? (furtherB p) with
    | none =>
      have := List.findIdx?_eq_none_iff.1 hi
      have h2 : hs.any (furtherB p) = false := List.any_eq_false.2 fun x hx => by rw [this x hx]; simp
      rw [h2]
      rfl
    | some i =>
      obtain ⟨hlt, hp, _⟩ := List.findIdx?_eq_some_iff_getElem.1 hi
      have h2 : hs.any (furtherB p) = true := List.any_eq_true.2 ⟨_, List.getElem_mem hlt, hp⟩
      rw [h2]
      exact decide_eq_true (by simp only; omega)
  obtain ⟨A, c, xs, rfl, _⟩ := hv
  clear hl hok h0 h1 hm hp hhi hg
  generalize idxV (furtherB p) hs = z at HC HV
  generalize hs.any (furtherB p) = r at HV ⊢
  go_enter Try.func77, Try.ntmps77
  go_wp2_with fail
  refine HC.out.mono ?_
  rintro e w2 ⟨rfl, hb⟩
  have HB := Lib.hid hb
  clear hb
  go_wp2
  go_ret
  exact ⟨by rw [← HV.out]; rfl, HB.out⟩


set_option maxRecDepth 100000 in
set_option maxHeartbeats 4000000 in
theorem fits_any (cs ds : Array Value) (p : Pk) (h : Hk) (lo hi : Nat) (w : World) (hp : PkV w lo hi cs p) (hhi : hi ≤ w.heap.size) (h0 : 0 ≤ p.off) (h1 : p.off ≤ 1000) (hm : p.data.length ≤ 1000000000) (hh : HkT w ds.toList h) :
    Calls Try.prog 60 #[.agg cs, .agg ds] w fun e w' => e = .returned (.bool (fitsB p h)) ∧ Below w.heap.size w w' := by
  obtain ⟨A, c, xs, _, _, _, _, k12, k13, htr, hrow, hlc, hcm, hA⟩ := hh.parts
  have hok := hh.ok
  rw [Array.getElem?_toList] at k12 k13
  obtain ⟨_, _, m1, _, _, _⟩ := hp.parts
  have HS1 : Hid (cs.size = 14) := hp.size
  have HFB : Hid (fitsB p h = if 0 ≤ h.fin then decide (endP p = h.fin) || (p.more && decide (endP p < h.fin)) else p.more || !h.got.any (furtherB p)) := rfl
  obtain ⟨w6, hw6⟩ : ∃ w6, (w.alloc (.cells cs 60)).alloc (.cells ds 109) = w6 := ⟨_, rfl⟩
  have HB6 : Hid (Below w.heap.size w w6) := by rw [← hw6]; exact ((Below.refl _ _).alloc (Nat.le_refl _) _).alloc (by simp) _
  have hx : w6.heap[w.heap.size]? = some (.cells cs 60 (0, 0)) := by rw [← hw6]; exact old_alloc (heap_alloc_new w _) _
  have hy : w6.heap[w.heap.size + 1]? = some (.cells ds 109 (0, 0)) := by
    have := heap_alloc_new (w.alloc (.cells cs 60)) (.cells ds 109)
    rw [World.size_alloc] at this
    rw [← hw6]
    exact this
  have z1 : w6.cell? ⟨w.heap.size, 1, none⟩ = some (.bool p.more) := by rw [cell_of_row _ _ _ _ _ _ hx]; exact m1
  have z12 : w6.cell? ⟨w.heap.size + 1, 12, none⟩ = some (.int .i64 h.fin) := by rw [cell_of_row _ _ _ _ _ _ hy]; exact k12
  have z13 : w6.cell? ⟨w.heap.size + 1, 13, none⟩ = some (.slice A h.got.length c) := by rw [cell_of_row _ _ _ _ _ _ hy]; exact k13
  have HX := Lib.hid hx
  have HP6 := Lib.hid (hp.below HB6.out hhi)
  have HHI : Hid (hi ≤ w6.heap.size) := Nat.le_trans hhi HB6.out.size
  have H01 := Lib.hid (And.intro h0 (And.intro h1 hm))
  have HOK := Lib.hid hok
  have HPT : Hid (PtsT w6 (.slice A h.got.length c) h.got) := ⟨A, c, xs, rfl, htr.below HB6.out (Nat.le_refl _), hrow.imp fun _ _ _ q => q.keeps (Keeps.below HB6.out (Nat.le_refl _)), hlc, hcm, hA⟩
  obtain ⟨r, hrr⟩ : ∃ r, fitsB p h = r := ⟨_, rfl⟩
  rw [hrr] at HFB ⊢
  have HGB := Lib.hid (rfl : h.got = h.got)
  clear hrr
  by_cases c1 : 0 ≤ h.fin
  · have HV0 : Hid (r = (decide (endP p = h.fin) || (p.more && decide (endP p < h.fin)))) := by show _ = _; rw [HFB.out, if_pos c1]
    have hE : 0 ≤ endP p ∧ endP p ≤ 1000001000 := by unfold endP; omega
    obtain ⟨E, hEE⟩ : ∃ E, endP p = E := ⟨_, rfl⟩
    rw [hEE] at HV0 hE
    have HEE := Lib.hid hEE
    have hf3 : h.fin ≤ 1000 := hok.2.2.2.2.2.1
    obtain ⟨f, hff⟩ : ∃ f, h.fin = f := ⟨_, rfl⟩
    rw [hff] at HV0 c1 z12 hf3
    obtain ⟨mr, hmr⟩ : ∃ mr, p.more = mr := ⟨_, rfl⟩
    rw [hmr] at HV0 z1
    obtain ⟨hE0, hE1⟩ := hE
    have kg : ∀ w', (∃ p : Regrown, w' = Sort.grow (redrawn w6 p.d) p.os) → w'.heap[w.heap.size]? = some (.cells cs 60 (0, 0)) := fun w' ⟨q, hq⟩ => by rw [hq]; exact row_regrown hx _ _
    have KG := Lib.hid kg
    have hcs : ∀ d os, Calls Try.prog 54 #[.agg cs] (Sort.grow (redrawn w6 d) os) fun e w'' => e = .returned (.int .i64 E) ∧ ∃ p : Regrown, w'' = Sort.grow (redrawn w6 p.d) p.os := fun d os => by
      rw [← HEE.out]
      exact Calls.regrown_of (end_any cs p lo hi _ (HP6.out.below (below_regrown w6 d os) HHI.out) h0 h1 hm)
    have HCS := Lib.hid hcs
    have k1 := cell_regrown z1
    have k12 := cell_regrown z12
    have hcase : ((E == f) = true ∧ r = true) ∨ ((E == f) = false ∧ mr = false ∧ r = false) ∨ ((E == f) = false ∧ mr = true ∧ E < f ∧ r = true) ∨ ((E == f) = false ∧ mr = true ∧ f < E ∧ r = false) := by
      by_cases e1 : E = f
      · exact .inl ⟨beqT e1, by rw [HV0.out]; simp [e1]⟩
      · have e2 := beqF e1
        have e3 : decide (E = f) = false := decide_eq_false e1
        cases mr
        · exact .inr (.inl ⟨e2, rfl, by rw [HV0.out, e3]; rfl⟩)
        · by_cases e4 : E < f
          · exact .inr (.inr (.inl ⟨e2, rfl, e4, by rw [HV0.out, e3, decide_eq_true e4]; rfl⟩))
          · exact .inr (.inr (.inr ⟨e2, rfl, by omega, by rw [HV0.out, e3, decide_eq_false e4]; rfl⟩))
    clear hp hh hok k13 htr hrow hlc hcm hA m1 HFB hx hy z13 hEE hff hmr kg hcs HV0 hm h0 h1 hhi
    rcases hcase with ⟨e1, rfl⟩ | ⟨e1, rfl, rfl⟩ | ⟨e1, rfl, e2, rfl⟩ | ⟨e1, rfl, e2, rfl⟩
    · go_enter Try.func60, Try.ntmps60
      go_wp2_with fail
      (try rw [hw6])
      refine wp_region_quiet_below (by kernel_rfl) (by kernel_rfl) ?_
      (refine wpQuiet_step (fun K hK => ?_); refine quiet_load_row (by rfl) 60 _ rfl w.heap.size rfl _ cs _ _ KG.out Try.underlying60 rfl (size_pk HS1.out) ?_; refine hK _ ?_; clear hK K)
      repeat (first | go_big_quiet_step (first | (go_at_call 54; exact HCS.out _ _)) | quiet_step (first | (go_at_call 54; exact HCS.out _ _)))
      refine wpQuiet_nil ?_
      intro _ hw'
      obtain ⟨⟨dq, osq⟩, hw''⟩ := hw'
      subst hw''
      have HB := Lib.hid (HB6.out.trans ((below_regrown w6 dq osq).mono HB6.out.size))
      go_wp2
      go_ret
      exact ⟨rfl, HB.out⟩
    · go_enter Try.func60, Try.ntmps60
      go_wp2_with fail
      (try rw [hw6])
      refine wp_region_quiet_below (by kernel_rfl) (by kernel_rfl) ?_
      (refine wpQuiet_step (fun K hK => ?_); refine quiet_load_row (by rfl) 60 _ rfl w.heap.size rfl _ cs _ _ KG.out Try.underlying60 rfl (size_pk HS1.out) ?_; refine hK _ ?_; clear hK K)
      repeat (first | go_big_quiet_step (first | (go_at_call 54; exact HCS.out _ _)) | quiet_step (first | (go_at_call 54; exact HCS.out _ _)))
      refine wpQuiet_nil ?_
      intro _ hw'
      obtain ⟨⟨dq, osq⟩, hw''⟩ := hw'
      subst hw''
      have HB := Lib.hid (HB6.out.trans ((below_regrown w6 dq osq).mono HB6.out.size))
      go_wp2
      go_ret
      exact ⟨rfl, HB.out⟩
    · have e3 : decide (E < f) = true := decide_eq_true e2
      go_enter Try.func60, Try.ntmps60
      go_wp2_with fail
      (try rw [hw6])
      refine wp_region_quiet_below (by kernel_rfl) (by kernel_rfl) ?_
      (refine wpQuiet_step (fun K hK => ?_); refine quiet_load_row (by rfl) 60 _ rfl w.heap.size rfl _ cs _ _ KG.out Try.underlying60 rfl (size_pk HS1.out) ?_; refine hK _ ?_; clear hK K)
      iterate 8 (first | go_big_quiet_step (first | (go_at_call 54; exact HCS.out _ _)) | quiet_step (first | (go_at_call 54; exact HCS.out _ _)))
      (refine wpQuiet_step (fun K hK => ?_); refine quiet_load_row (by rfl) 60 _ rfl w.heap.size rfl _ cs _ _ KG.out Try.underlying60 rfl (size_pk HS1.out) ?_; refine hK _ ?_; clear hK K)
      repeat (first | go_big_quiet_step (first | (go_at_call 54; exact HCS.out _ _)) | quiet_step (first | (go_at_call 54; exact HCS.out _ _)))
      refine wpQuiet_nil ?_
      intro _ hw'
      obtain ⟨⟨dq, osq⟩, hw''⟩ := hw'
      subst hw''
      have HB := Lib.hid (HB6.out.trans ((below_regrown w6 dq osq).mono HB6.out.size))
      go_wp2
      go_ret
      exact ⟨rfl, HB.out⟩
    · have e3 : decide (E < f) = false := decide_eq_false (by omega)
      go_enter Try.func60, Try.ntmps60
      go_wp2_with fail
      (try rw [hw6])
      refine wp_region_quiet_below (by kernel_rfl) (by kernel_rfl) ?_
      (refine wpQuiet_step (fun K hK => ?_); refine quiet_load_row (by rfl) 60 _ rfl w.heap.size rfl _ cs _ _ KG.out Try.underlying60 rfl (size_pk HS1.out) ?_; refine hK _ ?_; clear hK K)
      iterate 8 (first | go_big_quiet_step (first | (go_at_call 54; exact HCS.out _ _)) | quiet_step (first | (go_at_call 54; exact HCS.out _ _)))
      (refine wpQuiet_step (fun K hK => ?_); refine quiet_load_row (by rfl) 60 _ rfl w.heap.size rfl _ cs _ _ KG.out Try.underlying60 rfl (size_pk HS1.out) ?_; refine hK _ ?_; clear hK K)
      repeat (first | go_big_quiet_step (first | (go_at_call 54; exact HCS.out _ _)) | quiet_step (first | (go_at_call 54; exact HCS.out _ _)))
      refine wpQuiet_nil ?_
      intro _ hw'
      obtain ⟨⟨dq, osq⟩, hw''⟩ := hw'
      subst hw''
      have HB := Lib.hid (HB6.out.trans ((below_regrown w6 dq osq).mono HB6.out.size))
      go_wp2
      go_ret
      exact ⟨rfl, HB.out⟩
  · have HV0 : Hid (r = (p.more || !h.got.any (furtherB p))) := by show _ = _; rw [HFB.out, if_neg c1]
    have c2 : h.fin < 0 := by omega
    have HCT := Lib.hid (contains_any _ h.got cs p lo hi w.heap.size w6 HPT.out hok.2.2.2.2.2.2.1 hok.2.2.2.2.2.2.2 h0 h1 hm HP6.out HHI.out hx)
    obtain ⟨f, hff⟩ : ∃ f, h.fin = f := ⟨_, rfl⟩
    rw [hff] at z12 c2
    generalize h.got.any (furtherB p) = an at HV0 HCT
    clear hp hh hok k13 htr hrow hlc hcm hA m1 HFB hx hy hff hm h0 h1 hhi c1 k12
    cases hmr : p.more
    all_goals rw [hmr] at HV0 z1
    · have HV : Hid (r = !an) := by show _ = _; rw [HV0.out]; rfl
      clear hmr HV0
      go_enter Try.func60, Try.ntmps60
      go_wp2_with fail
      (try rw [hw6])
      refine HCT.out.mono ?_
      rintro e w7 ⟨rfl, hb7⟩
      have HB := Lib.hid (HB6.out.trans (hb7.mono HB6.out.size))
      clear hb7
      go_wp2
      go_ret
      exact ⟨by rw [HV.out]; rfl, HB.out⟩
    · have HV : Hid (r = true) := by show _ = _; rw [HV0.out]; rfl
      clear hmr HV0
      go_enter Try.func60, Try.ntmps60
      go_wp2
      (try rw [hw6])
      go_ret
      exact ⟨by rw [HV.out]; rfl, by first | exact HB6.out | (rw [hw6]; exact HB6.out)⟩
end Go.Proofs.Ytjgdmkmfnkaoaaa.F
