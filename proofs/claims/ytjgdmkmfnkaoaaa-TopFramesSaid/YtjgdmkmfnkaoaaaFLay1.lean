/-
  frag.lay: a hole with one more piece. Every hole, every piece that is formed. No condition.
-/
import Derived.Test.YtjgdmkmfnkaoaaaFConcatP
import Derived.Laws.CopyOwn
namespace Go.Proofs.Ytjgdmkmfnkaoaaa.F
open Go.RowKit

theorem cells_keep {w w' : World} {row : Option Nat} {b : Nat} {C : Array Value} {t : TypeId} {fr : Nat × Nat} (hg : w.grownBy w' row) (h : w.heap[b]? = some (.cells C t fr)) (hne : ∀ j, row = some j → b ≠ j) (i : Nat) : w'.cell? ⟨b, i, none⟩ = C[i]? :=
  cell_of_row _ _ _ _ _ _ ((hg.block b (row_lt h) fun he => hne b he.symm rfl).trans h)
set_option maxRecDepth 100000 in
theorem make_row (n : Nat) (hn : n ≤ 100000) (w : World) : (Instr.makeSlice 24 (.int .i64 (n : Int)) (.int .i64 (n : Int))).run Try.prog w = .ok (.slice (some ⟨w.heap.size, 0, none⟩) n n) (w.alloc (.cells (cells (List.replicate n 0)).toArray 5)) := by
  obtain ⟨i0, hi0, hz0, hz1, hz2⟩ := info_parts info_u8
  have hr := run_make (P := Try.prog) w 24 5 i0 (.int .u8 0) Try.underlying24 hi0 hz0 .i64 .i64 n n (by omega) (Int.le_refl _) (by rw [hz2]; omega) (by omega)
  simp only [Int.toNat_natCast] at hr
  have e : madeCells (Value.int .u8 0).cells (n * i0.size) = (cells (List.replicate n 0)).toArray := by
    apply Array.ext'
    rw [hz1, Nat.mul_one]
    show (madeCells #[.int .u8 0] n).toList = _
    rw [toList_madeCells_one]
    simp [cells]
  rw [e] at hr
  exact hr
set_option maxRecDepth 100000 in
/-- bytes copied into a row of bytes -/
theorem copy_bytes (w : World) (J a d n c : Nat) (ty : TypeId) (A : Option Addr) (l x : List UInt8) {lo hi : Nat} (hg : w.heap[J]? = some (.cells (cells l).toArray 5 (0, 0))) (hl : l.length = d) (hx : x.length = n) (hn : 0 < n) (hf : a + n ≤ d) (hr : Rd w lo hi A (cells x)) :
    (Builtin.copy_ #[24, 24] ty #[.slice (some ⟨J, a, none⟩) (d - a) (d - a), .slice A n c]).run Try.prog w = .ok (goInt n) (w.setRow J (cells (over l a x)).toArray) := by
  obtain ⟨ad, rfl, _⟩ := hr.byte (k := 0) (by omega)
  have h := run_copy_row (P := Try.prog) w 24 24 ty 5 J a (d - a) (d - a) ad n c (cells l).toArray 5 (cells x) Try.underlying24 (by kernel_rfl) hg (by rw [cells_length, hx]; exact (Nat.min_eq_left (by omega)).symm) (fun j v hv => by
    obtain ⟨ad', e, _, _, hc⟩ := hr j v hv
    cases e
    exact hc) (by rw [cells_length]; simp [cells_length]; omega) (cells_one x)
  rw [h, cells_length, hx]
  congr 2
  simp only [over, cells_append, cells_take, cells_drop, hx]
set_option maxRecDepth 100000 in
theorem run_copyE {P : Program} {ev : Operand → Value} {o : Oper} {w w' : World} (s x : Operand) (t : TypeId) (ho : o.op = .call { callee := .builtin .copy, args := #[s, x], argTypes := #[t, t] }) {vs vx v : Value} (hs : ev s = vs) (hx : ev x = vx)
    (hr : (Builtin.copy_ #[t, t] o.type #[vs, vx]).run P w = .ok v w') : (execOp ev o).run P w = .ok (.value v) w' := by
  unfold execOp
  simp only [ho, resolve, invoke, builtin, Sem.run_bind, Sem.run_pure, Result.andThen_ok, List.map_toArray, List.map_cons, List.map_nil, hs, hx, hr]
theorem fold_min_le (f : Pt → Int) : ∀ (l : List Pt) (a : Int), l.foldl (fun a t => min a (f t)) a ≤ a ∧ ∀ t ∈ l, l.foldl (fun a t => min a (f t)) a ≤ f t
  | [], a => ⟨Int.le_refl _, fun t ht => by cases ht⟩
  | x :: r, a => by
    obtain ⟨h1, h2⟩ := fold_min_le f r (min a (f x))
    refine ⟨by simp only [List.foldl_cons]; omega, fun t ht => ?_⟩
    simp only [List.foldl_cons]
    rcases List.mem_cons.1 ht with rfl | ht
    · omega
    · exact h2 t ht
theorem fold_max_le (f : Pt → Int) : ∀ (l : List Pt) (a : Int), a ≤ l.foldl (fun a t => max a (f t)) a ∧ ∀ t ∈ l, f t ≤ l.foldl (fun a t => max a (f t)) a
  | [], a => ⟨Int.le_refl _, fun t ht => by cases ht⟩
  | x :: r, a => by
    obtain ⟨h1, h2⟩ := fold_max_le f r (max a (f x))
    refine ⟨by simp only [List.foldl_cons]; omega, fun t ht => ?_⟩
    simp only [List.foldl_cons]
    rcases List.mem_cons.1 ht with rfl | ht
    · omega
    · exact h2 t ht
/-- the bytes while the touched parts are laid over them -/
def laid (f : Nat) (l0 : List UInt8) (ts : List Pt) : List UInt8 := ts.foldl (fun a t => over a (t.off - (f : Int)).toNat t.data) l0
set_option maxRecDepth 100000 in
theorem laid_succ (f : Nat) (l0 : List UInt8) (ts : List Pt) (j : Nat) (t : Pt) (h : ts[j]? = some t) : laid f l0 (ts.take (j + 1)) = over (laid f l0 (ts.take j)) (t.off - (f : Int)).toNat t.data := by
  have hl := (List.getElem?_eq_some_iff.1 h).1
  rw [List.take_succ_eq_append_getElem hl, (List.getElem?_eq_some_iff.1 h).2]
  unfold laid
  rw [List.foldl_append]
  rfl
set_option maxRecDepth 100000 in
theorem hkS_12 {h : Hk} (hk : h.ok) (v : Value) (z : Int) : (hkC h v).toArray.setIfInBounds 12 (.int .i64 z) = (hkC { h with fin := z } v).toArray := by
  obtain ⟨s0, s1, s2, s3, e1⟩ := four_of h.src hk.2.1
  obtain ⟨d0, d1, d2, d3, e2⟩ := four_of h.dst hk.2.2.1
  rw [List.setIfInBounds_toArray]
  simp only [hkC, e1, e2]
  rfl
set_option maxRecDepth 100000 in
theorem OwnPs.pts {w wr : World} {B : Nat} {v : Value} {ps : List Pt} (h : OwnPs w wr B v ps) (hb : Below w.heap.size w wr) : PtsT wr v ps := by
  obtain ⟨xs, h1, h2⟩ := h
  obtain ⟨A, c, rfl, h3⟩ := ownk_form h1
  exact ⟨A, c, xs, rfl, (Tr.own h1).wide (Nat.zero_le _), h2.imp fun _ _ _ hp => hp.below hb, h3⟩
set_option maxRecDepth 100000 in
theorem split_le (p : Pk) : ∀ (l : List Pt), (l.filter (aheadB p)).length + (l.filter (behindB p)).length ≤ l.length
  | [] => Nat.le_refl _
  | x :: r => by
    have ih := split_le p r
    simp only [List.filter_cons, List.length_cons]
    cases hb : behindB p x
    · cases ha : aheadB p x <;> simp <;> omega
    · have : aheadB p x = false := by unfold aheadB; rw [hb]; rfl
      rw [this]
      simp
      omega
theorem one_hkC (h : Hk) (A : Option Addr) (n c : Nat) : (hkC h (.slice A n c)).toArray.all (·.oneCell') = true := all_one fun u hu => by
  simp only [hkC, List.mem_append, List.mem_cons, List.not_mem_nil, or_false] at hu
  rcases hu with (hu | hu) | rfl | rfl | rfl | rfl | rfl | rfl
  · exact cells_one _ u hu
  · exact cells_one _ u hu
  all_goals rfl
set_option maxRecDepth 100000 in
theorem min_nat (a b : Nat) : min (a : Int) (b : Int) = ((min a b : Nat) : Int) := by omega
set_option maxRecDepth 100000 in
theorem max_nat (a b : Nat) : max (a : Int) (b : Int) = ((max a b : Nat) : Int) := by omega

set_option maxRecDepth 100000 in
set_option maxHeartbeats 4000000 in
theorem lay_any (cs ds : Array Value) (p : Pk) (h : Hk) (lo hi : Nat) (w : World) (hp : PkV w lo hi cs p) (hhi : hi ≤ w.heap.size) (h0 : 0 ≤ p.off) (h1 : p.off ≤ 1000) (hm : endP p ≤ 1000) (hm0 : 0 < p.data.length) (hh : HkT w ds.toList h) (hgl : h.got.length < 1000) (hlt : p.data.length ≤ 1000) :
    Calls Try.prog 62 #[.agg ds, .agg cs] w fun e w' => ∃ es, e = .returned (.agg es) ∧ HkT w' es.toList (layP h p) ∧ Below w.heap.size w w' := by
  obtain ⟨A, c, xs0, _, _, _, _, k12, k13, htr, hrow, hlc, hcm, hA⟩ := hh.parts
  have hok := hh.ok
  obtain ⟨v00, heds, _, _⟩ := hh
  rw [Array.getElem?_toList] at k12 k13
  obtain ⟨A9, c9, m1, _, m13, hrd9, hlc9, hcm9, hA9⟩ := hp.parts
  have m2 := hp.off_cell
  have HS1 : Hid (cs.size = 14) := hp.size
  have HS2 : Hid (ds.size = 14) := by show _ = _; rw [← Array.length_toList, heds]; exact hkC_len hok v00
  obtain ⟨Z, hZ⟩ : ∃ Z : Array Value, Z = #[.int .u8 0, .int .u8 0, .int .u8 0, .int .u8 0, .int .u8 0, .int .u8 0, .int .u8 0, .int .u8 0, .int .u8 0, .int .u16 0, .int .u8 0, .int .u64 0, .int .i64 0, .slice none 0 0] := ⟨_, rfl⟩
  have HZ := Lib.hid hZ
  obtain ⟨o, ho⟩ := Int.eq_ofNat_of_zero_le h0
  obtain ⟨n, hn⟩ : ∃ n, p.data.length = n := ⟨_, rfl⟩
  obtain ⟨e, he⟩ : ∃ e : Nat, e = o + n := ⟨_, rfl⟩
  have hE : endP p = (e : Int) := by unfold endP; rw [ho, hn, he]; simp
  rw [hn] at m13 hlc9 hm0 hlt
  rw [ho] at m2
  rw [hE] at hm
  obtain ⟨m, hgm⟩ : ∃ m, h.got.length = m := ⟨_, rfl⟩
  rw [hgm] at k13 hlc hgl
  have hmp : p.data.length ≤ 1000000000 := by omega
  have hom : o ≤ 1000 := by omega
  have hem : e ≤ 1000 := by omega
  have heon : o + n = e := he.symm
  obtain ⟨w6, hw6⟩ : ∃ w6, ((w.alloc (.cells ds 109)).alloc (.cells cs 60)).alloc (.cells Z 109) = w6 := ⟨_, rfl⟩
  have HB6 : Hid (Below w.heap.size w w6) := by rw [← hw6]; exact (((Below.refl _ _).alloc (Nat.le_refl _) _).alloc (by simp) _).alloc (by simp; omega) _
  have hx : w6.heap[w.heap.size]? = some (.cells ds 109 (0, 0)) := by rw [← hw6]; exact old_alloc (old_alloc (heap_alloc_new w _) _) _
  have hy : w6.heap[w.heap.size + 1]? = some (.cells cs 60 (0, 0)) := by
    have := heap_alloc_new (w.alloc (.cells ds 109)) (.cells cs 60)
    rw [World.size_alloc] at this
    rw [← hw6]
    exact old_alloc this _
  have hz : w6.heap[w.heap.size + 2]? = some (.cells Z 109 (0, 0)) := by
    have := heap_alloc_new ((w.alloc (.cells ds 109)).alloc (.cells cs 60)) (.cells Z 109)
    rw [World.size_alloc, World.size_alloc] at this
    rw [← hw6]
    exact this
  have hsz : w6.heap.size = w.heap.size + 3 := by rw [← hw6]; simp
  have HX := Lib.hid hx
  have HY := Lib.hid hy
  have HZZ := Lib.hid hz
  have HSZ := Lib.hid hsz
  have HP := Lib.hid hp
  have HHI := Lib.hid hhi
  have HO := Lib.hid ho
  have HEE := Lib.hid hE
  have HN := Lib.hid hn
  have HGM := Lib.hid hgm
  have HOK := Lib.hid hok
  have HTR := Lib.hid htr
  have HROW := Lib.hid hrow
  have HDS := Lib.hid heds
  have K12 := Lib.hid k12
  have K13 := Lib.hid k13
  have M1 := Lib.hid m1
  have M2 := Lib.hid m2
  have M13 := Lib.hid m13
  have HR9 := Lib.hid hrd9
  have HC9 := Lib.hid (And.intro hlc9 (And.intro hcm9 hA9))
  have y2 : w6.cell? ⟨w.heap.size + 1, 2, none⟩ = some (.int .i64 (o : Int)) := by rw [cell_of_row _ _ _ _ _ _ hy]; exact m2
  have k2 := cell_regrown y2
  have kg : ∀ w', (∃ q : Regrown, w' = Sort.grow (redrawn w6 q.d) q.os) → w'.heap[w.heap.size + 1]? = some (.cells cs 60 (0, 0)) := fun w' ⟨q, hq⟩ => by rw [hq]; exact row_regrown hy _ _
  have KG := Lib.hid kg
  have hcs : ∀ d os, Calls Try.prog 54 #[.agg cs] (Sort.grow (redrawn w6 d) os) fun x w'' => x = .returned (.int .i64 (e : Int)) ∧ ∃ q : Regrown, w'' = Sort.grow (redrawn w6 q.d) q.os := fun d os => by
    rw [← HEE.out]
    exact Calls.regrown_of (end_any cs p lo hi _ ((hp.below HB6.out hhi).below (below_regrown w6 d os) (Nat.le_trans hhi HB6.out.size)) h0 h1 hmp)
  have HCS := Lib.hid hcs
  have HEND : Hid (∀ W : World, Below w.heap.size w W → Calls Try.prog 54 #[.agg cs] W fun x w'' => x = .returned (.int .i64 (e : Int)) ∧ Below W.heap.size W w'') := fun W hW => by
    rw [← HEE.out]
    exact end_any cs p lo hi W (hp.below hW hhi) h0 h1 hmp
  clear hp hhi h0 h1 hm ho hE hn he hgm hok htr hrow heds k12 k13 m1 m2 m13 hrd9 hlc9 hcm9 hA9 hx hy hz hsz kg hcs hA hlc hcm hmp
  go_enter Try.func62, Try.ntmps62
  go_wp2_with fail
  rw [← hZ, hw6]
  clear hw6 hZ y2
  refine wp_region_quiet_below (by kernel_rfl) (by kernel_rfl) ?_
  repeat (first | (refine wpQuiet_step (fun K hK => ?_); refine quiet_load_row (by rfl) 60 _ rfl (w.heap.size + 1) rfl _ cs _ _ KG.out Try.underlying60 rfl (size_pk HS1.out) ?_; refine hK _ ?_; clear hK K) | quiet_step (first | (go_at_call 54; exact HCS.out _ _)))
  refine wpQuiet_nil ?_
  intro _ hw'
  obtain ⟨⟨dq, osq⟩, hw''⟩ := hw'
  subst hw''
  have hb7 := below_regrown w6 dq osq
  have HB7 := Lib.hid (HB6.out.trans (hb7.mono HB6.out.size))
  have HX7 := Lib.hid ((hb7.block _ (row_lt HX.out)).trans HX.out)
  have HY7 := Lib.hid ((hb7.block _ (row_lt HY.out)).trans HY.out)
  have HZ7 := Lib.hid ((hb7.block _ (row_lt HZZ.out)).trans HZZ.out)
  have HS7 : Hid (w.heap.size + 3 ≤ (Sort.grow (redrawn w6 dq) osq).heap.size) := by rw [← HSZ.out]; exact hb7.size
  clear hb7 k2 HCS KG HB6 HX HY HZZ HSZ
  generalize Sort.grow (redrawn w6 dq) osq = w7 at HB7 HX7 HY7 HZ7 HS7 ⊢
  have z13 : w7.cell? ⟨w.heap.size, 13, none⟩ = some (.slice A m c) := by rw [cell_of_row _ _ _ _ _ _ HX7.out]; exact K13.out
  go_wp2
  go_loopw [5, 6, 7, 8, 9, 22] (fun t5 t6 t7 t8 t9 t22 wr => ∃ k f t : Nat, k ≤ m ∧ t22 = .int .i64 (k : Int) ∧ t8 = .int .i64 (f : Int) ∧ t9 = .int .i64 (t : Int) ∧ f ≤ o ∧ e ≤ t ∧ t ≤ 1000 ∧ Hid (fromP p (h.got.take k) = (f : Int)) ∧ Hid (toP p (h.got.take k) = (t : Int)) ∧ Hid (Three w wr w7.heap.size p (h.got.take k) t5 t6 t7) ∧ Hid (Below w7.heap.size w7 wr)) (fun _ _ _ _ _ t22 _ => m - (intOf t22).toNat)
  case atStart => exact ⟨0, o, e, Nat.zero_le _, rfl, rfl, rfl, Nat.le_refl _, Nat.le_refl _, by omega, HO.out, HEE.out, Lib.hid (Three.nil _ _ _ _), Lib.hid (Below.refl _ _)⟩
  case round =>
    obtain ⟨k, f, t, hk, rfl, rfl, rfl, hfo, het, ht2, HF, HT, H3, HBR⟩ := hrel
    generalize u5 = v5 at H3 ⊢
    generalize u6 = v6 at H3 ⊢
    generalize u7 = v7 at H3 ⊢
    by_cases hlk : k < m
    · obtain ⟨pt, hpt⟩ : ∃ pt, h.got[k]? = some pt := ⟨_, List.getElem?_eq_getElem (by rw [HGM.out]; exact hlk)⟩
      have hsucc : h.got.take (k + 1) = h.got.take k ++ [pt] := by
        have hl := (List.getElem?_eq_some_iff.1 hpt).1
        rw [List.take_succ_eq_append_getElem hl, (List.getElem?_eq_some_iff.1 hpt).2]
      obtain ⟨v, hcv, A2, c2, rfl, htb⟩ := HROW.out.2 k pt hpt
      obtain ⟨x0, x1, x2, x3, x4⟩ := HOK.out.2.2.2.2.2.2.2 pt (List.mem_of_getElem? hpt)
      obtain ⟨x, hx⟩ := Int.eq_ofNat_of_zero_le x0
      obtain ⟨m2, hm2⟩ : ∃ m2, pt.data.length = m2 := ⟨_, rfl⟩
      rw [hx] at x1 x4 hcv
      rw [hm2] at x2 x3 x4 hcv
      obtain ⟨ad, rfl⟩ : ∃ ad, A = some ad := by
        obtain ⟨ad, e, _⟩ := HTR.out.rd 0 _ (List.getElem?_eq_getElem (by rw [HROW.out.1, HGM.out]; omega))
        exact ⟨ad, e⟩
      have HEL : Hid (∀ j v, ([.int .i64 (x : Int), .slice A2 m2 c2] : List Value)[j]? = some v → wr.cell? ((ad.add (k * 2)).add j) = some v) := by
        show ∀ j v, _
        rw [← hcv]
        exact (((HTR.out.rd.below HB7.out (Nat.le_refl _)).below HBR.out HB7.out.size).elem k)
      have HPT : Hid (PtT w [.int .i64 (x : Int), .slice A2 m2 c2] pt) := ⟨.slice A2 m2 c2, by rw [hx], A2, c2, by rw [hm2], htb⟩
      have hfin : pt.fin = ((x + m2 : Nat) : Int) := by unfold Pt.fin; rw [hx, hm2]; simp
      have hbd : behindB p pt = decide (e < x) := by unfold behindB; rw [HEE.out, hx]; congr 1; apply propext; omega
      have htd : touchB p pt = (!decide (e < x) && !decide (x + m2 < o)) := by
        unfold touchB
        rw [hbd, hfin, HO.out]
        congr 2
        congr 1
        apply propext
        omega
      have had : aheadB p pt = (!decide (e < x) && decide (x + m2 < o)) := by
        unfold aheadB
        rw [hbd, hfin, HO.out]
        congr 1
        congr 1
        apply propext
        omega
      have HSU := Lib.hid hsucc
      have HXX := Lib.hid hx
      have HFI := Lib.hid hfin
      have HBD := Lib.hid hbd
      have HTD := Lib.hid htd
      have HAD := Lib.hid had
      have hcase : (e < x) ∨ (x ≤ e ∧ x + m2 < o) ∨ (x ≤ e ∧ o ≤ x + m2) := by omega
      clear hpt hsucc hcv x0 hx hm2 hfin hbd htd had htb
      rcases hcase with c1 | ⟨c1, c2'⟩ | ⟨c1, c2'⟩
      all_goals
        go_wp2_with (first | refine wpList_load_at rfl 128 _ rfl (ad.add (k * 2)) rfl [.int .i64 (x : Int), .slice A2 m2 c2] _ HEL.out Try.underlying128 rfl (by kernel_rfl) ?_ | refine wpList_store_new rfl 128 _ _ rfl wr #[.int .i64 0, .slice none 0 0] #[.int .i64 (x : Int), .slice A2 m2 c2] rfl rfl (by kernel_rfl) rfl rfl ?_)
        obtain ⟨b, hb⟩ : ∃ b, wr.heap.size = b := ⟨_, rfl⟩
        obtain ⟨wq, hwq⟩ : ∃ wq, wr.alloc (.cells #[.int .i64 (x : Int), .slice A2 m2 c2] 128) = wq := ⟨_, rfl⟩
        have hbq : Below wr.heap.size wr wq := by rw [← hwq]; exact (Below.refl _ _).alloc (Nat.le_refl _) _
        have hgq : wq.heap[b]? = some (.cells #[.int .i64 (x : Int), .slice A2 m2 c2] 128 (0, 0)) := by rw [← hwq, ← hb]; exact heap_alloc_new wr _
        have hyq : wq.heap[w.heap.size + 1]? = some (.cells cs 60 (0, 0)) := ((HBR.out.trans (hbq.mono HBR.out.size)).block _ (row_lt HY7.out)).trans HY7.out
        have HBQ := Lib.hid (HBR.out.trans (hbq.mono HBR.out.size))
        have H3Q := Lib.hid (H3.out.below hbq)
        have z0 := cell_regrown (show wq.cell? ⟨b, 0, none⟩ = some (.int .i64 (x : Int)) from by rw [cell_of_row _ _ _ _ _ _ hgq]; rfl)
        have z1 := cell_regrown (show wq.cell? ⟨b, 1, none⟩ = some (.slice A2 m2 c2) from by rw [cell_of_row _ _ _ _ _ _ hgq]; rfl)
        have kg : ∀ w', (∃ q : Regrown, w' = Sort.grow (redrawn wq q.d) q.os) → w'.heap[w.heap.size + 1]? = some (.cells cs 60 (0, 0)) := fun w' ⟨q, hq⟩ => by rw [hq]; exact row_regrown hyq _ _
        have KG := Lib.hid kg
        have hcs : ∀ d os, Calls Try.prog 54 #[.agg cs] (Sort.grow (redrawn wq d) os) fun x w'' => x = .returned (.int .i64 (e : Int)) ∧ ∃ q : Regrown, w'' = Sort.grow (redrawn wq q.d) q.os := fun d os => Calls.regrown_of (HEND.out _ ((HB7.out.trans (HBQ.out.mono HB7.out.size)).trans ((below_regrown wq d os).mono (HB7.out.trans (HBQ.out.mono HB7.out.size)).size)))
        have HCS := Lib.hid hcs
        have HGQ := Lib.hid hgq
        have HBW := Lib.hid hb
        rw [hb, hwq]
        clear kg hcs hgq hyq hbq hwq
        refine wp_region_quiet_below (by kernel_rfl) (by kernel_rfl) ?_
        repeat (first | (refine wpQuiet_step (fun K hK => ?_); refine quiet_load_row (by rfl) 60 _ rfl (w.heap.size + 1) rfl _ cs _ _ KG.out Try.underlying60 rfl (size_pk HS1.out) ?_; refine hK _ ?_; clear hK K) | quiet_step (first | (go_at_call 54; exact HCS.out _ _)))
        refine wpQuiet_nil ?_
        intro _ hw'
        obtain ⟨⟨dq, osq⟩, hw''⟩ := hw'
        subst hw''
        have hb8 := below_regrown wq dq osq
        have HB8 := Lib.hid (HBQ.out.trans (hb8.mono HBQ.out.size))
        have HG8 := Lib.hid ((hb8.block _ (row_lt HGQ.out)).trans HGQ.out)
        have H38 := Lib.hid (H3Q.out.below hb8)
        have HB0 := Lib.hid H3.out
        clear hb8 z0 z1 KG HCS HGQ HBQ H3Q
        generalize Sort.grow (redrawn wq dq) osq = w8 at HB8 HG8 H38 ⊢
        have q0 : w8.cell? ⟨b, 0, none⟩ = some (.int .i64 (x : Int)) := by rw [cell_of_row _ _ _ _ _ _ HG8.out]; rfl
        have q1 : w8.cell? ⟨b, 1, none⟩ = some (.slice A2 m2 c2) := by rw [cell_of_row _ _ _ _ _ _ HG8.out]; rfl
        have q2 : w8.cell? ⟨w.heap.size + 1, 2, none⟩ = some (.int .i64 (o : Int)) := by rw [cell_of_row _ _ _ _ _ _ ((HB8.out.block _ (row_lt HY7.out)).trans HY7.out)]; exact M2.out
      · have B1 : Hid (behindB p pt = true) := by show _ = _; rw [HBD.out]; exact decide_eq_true c1
        have HBB : Hid (∀ j, v7.ownBlock = some j → b ≠ j) := fun j he => by have := HB0.out.b.lt j he; have := HBW.out; omega
        obtain ⟨xs, hox, hrx⟩ := H38.out.b
        obtain ⟨j, hj⟩ : ∃ j, ((h.got.take k).filter (behindB p)).length = j := ⟨_, rfl⟩
        rw [hj] at hox
        have hjk : j ≤ 1000 := by
          rw [← hj]
          exact Nat.le_trans (List.length_filter_le _ _) (Nat.le_trans (List.length_take_le _ _) (by omega))
        have HOX := Lib.hid hox
        have HRX := Lib.hid hrx
        have HJ := Lib.hid hj
        obtain ⟨i0, hi0, hz0, hz1, hz2⟩ := info_parts info_pt
        have hz3 : (Value.agg #[.int .i64 0, .slice none 0 0]).cells.size = 2 := rfl
        have HONE : Hid (∀ u ∈ (#[.int .i64 (x : Int), .slice A2 m2 c2] : Array Value).toList, u.oneCell' = true) := by
          intro u hu
          simp at hu
          rcases hu with rfl | rfl <;> rfl
        clear hox hrx hj
        go_wp2_with (first | refine wpList_load_row rfl 128 _ rfl b rfl 128 #[.int .i64 (x : Int), .slice A2 m2 c2] (0, 0) _ HG8.out Try.underlying128 rfl (by kernel_rfl) ?_ | refine wpList_build_one rfl 107 128 _ rfl #[.int .i64 (x : Int), .slice A2 m2 c2] rfl Try.underlying107 2 (by decide) (by decide) (by kernel_rfl) rfl ?_ | (at_builtin; refine wpList_append_elem (P := Try.prog) rfl _ _ 107 rfl w7.heap.size 128 i0 _ 2 32 Try.underlying107 hi0 hz0 hz1 hz2 hz3 (by omega) v7 j xs rfl (HOX.out.alloc _) w8.heap.size 1 #[.int .i64 (x : Int), .slice A2 m2 c2] 128 (0, 0) rfl (heap_alloc_new w8 _) rfl HONE.out (by unfold maxLen; omega) (by omega) (by have := HB8.out.size; simp; omega) ?_; intro v' w9 hown9 hgrow9 hat9; have HO9 := Lib.hid hown9; have HG9 := Lib.hid hgrow9; have HA9 := Lib.hid hat9; have s0 : w9.cell? ⟨b, 0, none⟩ = some (.int .i64 (x : Int)) := cells_keep hgrow9 (old_alloc HG8.out _) HBB.out 0; have s1 : w9.cell? ⟨b, 1, none⟩ = some (.slice A2 m2 c2) := cells_keep hgrow9 (old_alloc HG8.out _) HBB.out 1; clear hown9 hgrow9 hat9))
        have H3A := H38.out.below ((Below.refl w8.heap.size w8).alloc (Nat.le_refl _) (.cells #[.int .i64 (x : Int), .slice A2 m2 c2] 128))
        have hy9 : w9.ownsRow w7.heap.size 128 2 v' (((h.got.take k).filter (behindB p)).length + 1) (xs ++ [.int .i64 (x : Int), .slice A2 m2 c2]) := by rw [HJ.out]; exact HO9.out
        have HB9 : Hid (Below w7.heap.size w7 w9) := (HB8.out.alloc HB8.out.size _).grown HG9.out (by have := HB8.out.size; simp; omega) fun g hg => (HOX.out.lt g hg).1
        have H39 : Hid (Three w w9 w7.heap.size p (h.got.take (k + 1)) v5 v6 v') := by
          rw [HSU.out]
          exact H3A.behind B1.out HRX.out hy9 HG9.out HA9.out HPT.out
        clear H3A hy9 hi0 hz0 hz1 hz2 hz3 q0 q1 q2
        have F1 : Hid (fromP p (h.got.take (k + 1)) = (f : Int)) := by show _ = _; rw [HSU.out, from_out _ _ _ (touch_of_behind B1.out)]; exact HF.out
        have T1 : Hid (toP p (h.got.take (k + 1)) = (t : Int)) := by show _ = _; rw [HSU.out, to_out _ _ _ (touch_of_behind B1.out)]; exact HT.out
        go_wp2
        go_roundw
        case rel => exact ⟨k + 1, f, t, by omega, by go_num, rfl, rfl, hfo, het, ht2, F1, T1, H39, HB9⟩
        case measure => simp [intOf]; omega
      · have B1 : Hid (behindB p pt = false) := by show _ = _; rw [HBD.out]; exact decide_eq_false (by omega)
        have A1 : Hid (aheadB p pt = true) := by show _ = _; rw [HAD.out, decide_eq_false (by omega), decide_eq_true c2']; rfl
        have HBB : Hid (∀ j, v5.ownBlock = some j → b ≠ j) := fun j he => by have := HB0.out.a.lt j he; have := HBW.out; omega
        obtain ⟨xs, hox, hrx⟩ := H38.out.a
        obtain ⟨j, hj⟩ : ∃ j, ((h.got.take k).filter (aheadB p)).length = j := ⟨_, rfl⟩
        rw [hj] at hox
        have hjk : j ≤ 1000 := by
          rw [← hj]
          exact Nat.le_trans (List.length_filter_le _ _) (Nat.le_trans (List.length_take_le _ _) (by omega))
        have HOX := Lib.hid hox
        have HRX := Lib.hid hrx
        have HJ := Lib.hid hj
        obtain ⟨i0, hi0, hz0, hz1, hz2⟩ := info_parts info_pt
        have hz3 : (Value.agg #[.int .i64 0, .slice none 0 0]).cells.size = 2 := rfl
        have HONE : Hid (∀ u ∈ (#[.int .i64 (x : Int), .slice A2 m2 c2] : Array Value).toList, u.oneCell' = true) := by
          intro u hu
          simp at hu
          rcases hu with rfl | rfl <;> rfl
        clear hox hrx hj
        go_wp2_with (first | refine wpList_load_row rfl 128 _ rfl b rfl 128 #[.int .i64 (x : Int), .slice A2 m2 c2] (0, 0) _ HG8.out Try.underlying128 rfl (by kernel_rfl) ?_ | refine wpList_build_one rfl 107 128 _ rfl #[.int .i64 (x : Int), .slice A2 m2 c2] rfl Try.underlying107 2 (by decide) (by decide) (by kernel_rfl) rfl ?_ | (at_builtin; refine wpList_append_elem (P := Try.prog) rfl _ _ 107 rfl w7.heap.size 128 i0 _ 2 32 Try.underlying107 hi0 hz0 hz1 hz2 hz3 (by omega) v5 j xs rfl (HOX.out.alloc _) w8.heap.size 1 #[.int .i64 (x : Int), .slice A2 m2 c2] 128 (0, 0) rfl (heap_alloc_new w8 _) rfl HONE.out (by unfold maxLen; omega) (by omega) (by have := HB8.out.size; simp; omega) ?_; intro v' w9 hown9 hgrow9 hat9; have HO9 := Lib.hid hown9; have HG9 := Lib.hid hgrow9; have HA9 := Lib.hid hat9; have s0 : w9.cell? ⟨b, 0, none⟩ = some (.int .i64 (x : Int)) := cells_keep hgrow9 (old_alloc HG8.out _) HBB.out 0; have s1 : w9.cell? ⟨b, 1, none⟩ = some (.slice A2 m2 c2) := cells_keep hgrow9 (old_alloc HG8.out _) HBB.out 1; clear hown9 hgrow9 hat9))
        have H3A := H38.out.below ((Below.refl w8.heap.size w8).alloc (Nat.le_refl _) (.cells #[.int .i64 (x : Int), .slice A2 m2 c2] 128))
        have hy9 : w9.ownsRow w7.heap.size 128 2 v' (((h.got.take k).filter (aheadB p)).length + 1) (xs ++ [.int .i64 (x : Int), .slice A2 m2 c2]) := by rw [HJ.out]; exact HO9.out
        have HB9 : Hid (Below w7.heap.size w7 w9) := (HB8.out.alloc HB8.out.size _).grown HG9.out (by have := HB8.out.size; simp; omega) fun g hg => (HOX.out.lt g hg).1
        have H39 : Hid (Three w w9 w7.heap.size p (h.got.take (k + 1)) v' v6 v7) := by
          rw [HSU.out]
          exact H3A.ahead B1.out A1.out HRX.out hy9 HG9.out HA9.out HPT.out
        clear H3A hy9 hi0 hz0 hz1 hz2 hz3 q0 q1 q2
        have F1 : Hid (fromP p (h.got.take (k + 1)) = (f : Int)) := by show _ = _; rw [HSU.out, from_out _ _ _ (touch_of_ahead B1.out A1.out)]; exact HF.out
        have T1 : Hid (toP p (h.got.take (k + 1)) = (t : Int)) := by show _ = _; rw [HSU.out, to_out _ _ _ (touch_of_ahead B1.out A1.out)]; exact HT.out
        go_wp2
        go_roundw
        case rel => exact ⟨k + 1, f, t, by omega, by go_num, rfl, rfl, hfo, het, ht2, F1, T1, H39, HB9⟩
        case measure => simp [intOf]; omega
      · have B1 : Hid (behindB p pt = false) := by show _ = _; rw [HBD.out]; exact decide_eq_false (by omega)
        have A1 : Hid (touchB p pt = true) := by show _ = _; rw [HTD.out, decide_eq_false (by omega), decide_eq_false (by omega)]; rfl
        have HBB : Hid (∀ j, v6.ownBlock = some j → b ≠ j) := fun j he => by have := HB0.out.t.lt j he; have := HBW.out; omega
        obtain ⟨xs, hox, hrx⟩ := H38.out.t
        obtain ⟨j, hj⟩ : ∃ j, ((h.got.take k).filter (touchB p)).length = j := ⟨_, rfl⟩
        rw [hj] at hox
        have hjk : j ≤ 1000 := by
          rw [← hj]
          exact Nat.le_trans (List.length_filter_le _ _) (Nat.le_trans (List.length_take_le _ _) (by omega))
        have HOX := Lib.hid hox
        have HRX := Lib.hid hrx
        have HJ := Lib.hid hj
        obtain ⟨i0, hi0, hz0, hz1, hz2⟩ := info_parts info_pt
        have hz3 : (Value.agg #[.int .i64 0, .slice none 0 0]).cells.size = 2 := rfl
        have HONE : Hid (∀ u ∈ (#[.int .i64 (x : Int), .slice A2 m2 c2] : Array Value).toList, u.oneCell' = true) := by
          intro u hu
          simp at hu
          rcases hu with rfl | rfl <;> rfl
        clear hox hrx hj
        go_wp2_with (first | refine wpList_load_row rfl 128 _ rfl b rfl 128 #[.int .i64 (x : Int), .slice A2 m2 c2] (0, 0) _ HG8.out Try.underlying128 rfl (by kernel_rfl) ?_ | refine wpList_build_one rfl 107 128 _ rfl #[.int .i64 (x : Int), .slice A2 m2 c2] rfl Try.underlying107 2 (by decide) (by decide) (by kernel_rfl) rfl ?_ | (at_builtin; refine wpList_append_elem (P := Try.prog) rfl _ _ 107 rfl w7.heap.size 128 i0 _ 2 32 Try.underlying107 hi0 hz0 hz1 hz2 hz3 (by omega) v6 j xs rfl (HOX.out.alloc _) w8.heap.size 1 #[.int .i64 (x : Int), .slice A2 m2 c2] 128 (0, 0) rfl (heap_alloc_new w8 _) rfl HONE.out (by unfold maxLen; omega) (by omega) (by have := HB8.out.size; simp; omega) ?_; intro v' w9 hown9 hgrow9 hat9; have HO9 := Lib.hid hown9; have HG9 := Lib.hid hgrow9; have HA9 := Lib.hid hat9; have s0 : w9.cell? ⟨b, 0, none⟩ = some (.int .i64 (x : Int)) := cells_keep hgrow9 (old_alloc HG8.out _) HBB.out 0; have s1 : w9.cell? ⟨b, 1, none⟩ = some (.slice A2 m2 c2) := cells_keep hgrow9 (old_alloc HG8.out _) HBB.out 1; clear hown9 hgrow9 hat9))
        all_goals
          have H3A := H38.out.below ((Below.refl w8.heap.size w8).alloc (Nat.le_refl _) (.cells #[.int .i64 (x : Int), .slice A2 m2 c2] 128))
          have hy9 : w9.ownsRow w7.heap.size 128 2 v' (((h.got.take k).filter (touchB p)).length + 1) (xs ++ [.int .i64 (x : Int), .slice A2 m2 c2]) := by rw [HJ.out]; exact HO9.out
          have HB9 : Hid (Below w7.heap.size w7 w9) := (HB8.out.alloc HB8.out.size _).grown HG9.out (by have := HB8.out.size; simp; omega) fun g hg => (HOX.out.lt g hg).1
          have H39 : Hid (Three w w9 w7.heap.size p (h.got.take (k + 1)) v5 v' v7) := by
            rw [HSU.out]
            exact H3A.touch B1.out A1.out HRX.out hy9 HG9.out HA9.out HPT.out
          clear H3A hy9 hi0 hz0 hz1 hz2 hz3 q0 q1 q2
          have F1 : Hid (fromP p (h.got.take (k + 1)) = ((min f x : Nat) : Int)) := by show _ = _; rw [HSU.out, from_in _ _ _ A1.out, HF.out, HXX.out]; omega
          have T1 : Hid (toP p (h.got.take (k + 1)) = ((max t (x + m2) : Nat) : Int)) := by show _ = _; rw [HSU.out, to_in _ _ _ A1.out, HT.out, HFI.out]; omega
          go_roundw
          case rel =>
            have hk1 : k + 1 ≤ m := hlk
            have hgn : (.int .i64 ((k : Int) + 1) : Value) = .int .i64 ((k + 1 : Nat) : Int) := by go_num
            refine ⟨k + 1, min f x, max t (x + m2), hk1, hgn, ?_, ?_, by omega, by omega, by omega, F1, T1, H39, HB9⟩
            · congr 1
              split <;> omega
            · congr 1
              split <;> omega
          case measure => simp [intOf]; omega
    · obtain rfl : k = m := by omega
      have hgt : h.got.take k = h.got := List.take_of_length_le (Nat.le_of_eq HGM.out)
      rw [hgt] at HF HT H3
      obtain ⟨d, hd⟩ : ∃ d, d = t - f := ⟨_, rfl⟩
      have hft : f ≤ t := by omega
      have hsub : IntKind.i64.wrap ((t : Int) - (f : Int)) = (d : Int) := by
        rw [show (t : Int) - (f : Int) = (d : Int) from by omega]
        exact IntWalk.i64_in _ ⟨by omega, by omega⟩
      have hmk := make_row d (by omega) wr
      obtain ⟨J, hJ⟩ : ∃ J, wr.heap.size = J := ⟨_, rfl⟩
      have HJ := Lib.hid hJ
      obtain ⟨wm, hwm⟩ : ∃ wm, wr.alloc (.cells (cells (List.replicate d 0)).toArray 5) = wm := ⟨_, rfl⟩
      rw [hJ, hwm] at hmk
      have hbm : Below wr.heap.size wr wm := by rw [← hwm]; exact (Below.refl _ _).alloc (Nat.le_refl _) _
      have HGJ : Hid (wm.heap[J]? = some (.cells (cells (List.replicate d 0)).toArray 5 (0, 0))) := by rw [← hwm, ← hJ]; exact heap_alloc_new wr _
      have HBM := Lib.hid (HBR.out.trans (hbm.mono HBR.out.size))
      have H3M := Lib.hid (H3.out.below hbm)
      have HD := Lib.hid hd
      clear hbm hwm hJ hd hgt
      go_wp2_with fail
      obtain ⟨a, ha⟩ : ∃ a, a = o - f := ⟨_, rfl⟩
      have hae : a + n ≤ d := by have := HD.out; omega
      have HAA := Lib.hid ha
      have HS22 : Hid (IntKind.i64.wrap ((o : Int) - (f : Int)) = (a : Int)) := by
        rw [show (o : Int) - (f : Int) = (a : Int) from by omega]
        exact IntWalk.i64_in _ ⟨by omega, by omega⟩
      obtain ⟨lj, hlj⟩ : ∃ lj : List UInt8, List.replicate d 0 = lj := ⟨_, rfl⟩
      rw [hlj] at HGJ
      have HLJ : Hid (lj.length = d) := by show _ = _; rw [← hlj, List.length_replicate]
      have HLJ0 := Lib.hid hlj
      have HWJ : Hid (w.heap.size + 3 ≤ J) := by have := HS7.out; have := HBR.out.size; have := HJ.out; show _ ≤ _; omega
      have HPB : Hid (∀ w' : World, wm.grownBy w' (some J) → w'.heap[w.heap.size + 1]? = some (.cells cs 60 (0, 0))) := fun w' hg => by
        have h1 := (HBM.out.block _ (row_lt HY7.out)).trans HY7.out
        exact (hg.block _ (row_lt h1) (fun he => by injection he with he; have := HWJ.out; omega)).trans h1
      have HBW : Hid (∀ w' : World, wm.grownBy w' (some J) → Below w.heap.size w w') := fun w' hg => (HB7.out.trans (HBM.out.mono HB7.out.size)).grown hg (HB7.out.trans (HBM.out.mono HB7.out.size)).size fun g hg2 => by injection hg2 with hg2; have := HWJ.out; omega
      have hn9 : (n : Int) ≤ 1000 := by omega
      clear ha hlj hmk hsub z13
      apply wp_region_relyG [8] (fun L w' => wm.grownBy w' (some J) ∧ w'.heap[J]? = some (.cells (cells (if L 8 then over lj a p.data else lj)).toArray 5 (0, 0))) (RL [Is _, Is _, Is _, Is _, Is _, Is (.slice (some ⟨J, a, none⟩) (d - a) (d - a)), Is _, Is _, Is (goInt n)]) [false, false, false, false, false, false, false, false, false, false, false, false, false, false, false, false, false, false, false, false, false, false, false, false, false, false, false, false, false, false, false, false, false, false, false, false, false, false, false, false, false, false, false, false, false, false, false, false, false, false, false, false, false, false, false, false, false, false, false, false, false, false, false, false, false, false, false, false, false, false, false, true, true, true, true, true, true, true, true, true, false, false, false, false, false, false, false, false, false, false, false, false, false, false, false, false, false, false, false, false, false, false, false, false, false, false, false, false, false, false, false, false]
      · kernel_rfl
      · kernel_rfl
      · kernel_rfl
      · refine ⟨?_, ?_, ?_, ?_, ?_, ?_, ?_, ?_, ?_, trivial⟩
        · intro L ev w' hC hL hx K hK
          have e12 : ev (.tmp 12) = _ := hx.base 12 (by kernel_rfl)
          have HK := Lib.hid hK
          have HC := Lib.hid hC
          have HL := Lib.hid hL
          have HX := Lib.hid hx
          have hc := hx.cst
          skip
          clear hx hK hC hL
          unfold Run
          simp [execOp, Upon, go_sem, *]
          exact HK.out _ _ (.inl ⟨Below.refl _ _, by decide⟩) rfl
        · intro L ev w' hC hL hx K hK
          have e3 : ev (.tmp 3) = _ := hx.base 3 (by kernel_rfl)
          have HK := Lib.hid hK
          have HC := Lib.hid hC
          have HL := Lib.hid hL
          have HX := Lib.hid hx
          have hc := hx.cst
          skip
          clear hx hK hC hL
          unfold Run
          simp [execOp, Upon, go_sem, *]
          exact HK.out _ _ (.inl ⟨Below.refl _ _, by decide⟩) rfl
        · intro L ev w' hC hL hx K hK
          have e72 := hx.held 1 _ rfl (by kernel_rfl)
          change ev (.tmp 72) = _ at e72
          have HK := Lib.hid hK
          have HC := Lib.hid hC
          have HL := Lib.hid hL
          have HX := Lib.hid hx
          have hc := hx.cst
          skip
          clear hx hK hC hL
          have cM := cell_of_row _ _ 2 _ _ _ (HPB.out w' HC.out.1)
          rw [M2.out] at cM
          unfold Run
          simp [execOp, Upon, go_sem, *]
          exact HK.out _ _ (.inl ⟨Below.refl _ _, by decide⟩) rfl
        · intro L ev w' hC hL hx K hK
          have e8 : ev (.tmp 8) = _ := hx.base 8 (by kernel_rfl)
          have HK := Lib.hid hK
          have HC := Lib.hid hC
          have HL := Lib.hid hL
          have HX := Lib.hid hx
          have hc := hx.cst
          skip
          clear hx hK hC hL
          unfold Run
          simp [execOp, Upon, go_sem, *]
          exact HK.out _ _ (.inl ⟨Below.refl _ _, by decide⟩) rfl
        · intro L ev w' hC hL hx K hK
          have e73 := hx.held 2 _ rfl (by kernel_rfl)
          have e74 := hx.held 3 _ rfl (by kernel_rfl)
          change ev (.tmp 73) = _ at e73
          change ev (.tmp 74) = _ at e74
          have HK := Lib.hid hK
          have HC := Lib.hid hC
          have HL := Lib.hid hL
          have HX := Lib.hid hx
          have hc := hx.cst
          skip
          clear hx hK hC hL
          have hs2 := HS22.out
          unfold Run
          simp [execOp, Upon, go_sem, *]
          exact HK.out _ _ (.inl ⟨Below.refl _ _, by decide⟩) rfl
        · intro L ev w' hC hL hx K hK
          have e71 := hx.held 0 _ rfl (by kernel_rfl)
          have e75 := hx.held 4 _ rfl (by kernel_rfl)
          change ev (.tmp 71) = _ at e71
          change ev (.tmp 75) = _ at e75
          have HK := Lib.hid hK
          have HC := Lib.hid hC
          have HL := Lib.hid hL
          have HX := Lib.hid hx
          have hc := hx.cst
          skip
          clear hx hK hC hL
          have q : ev (.tmp 71) = .slice (some ⟨J, 0, none⟩) d d := e71
          have hrun : (Instr.slice 24 (.slice (some ⟨J, 0, none⟩) d d) (some (ev (.tmp 75))) none none).run Try.prog w' = .ok (.slice (some ⟨J, a, none⟩) (d - a) (d - a)) w' := by
            rw [e75]
            have := run_slice_l (P := Try.prog) 24 5 1 Try.underlying24 (by kernel_rfl) (some ⟨J, 0, none⟩) d d a (by omega) w'
            rw [if_neg (by omega), Option.map_some, Addr.add_mid, Nat.zero_add, Nat.mul_one] at this
            exact this
          unfold Run
          rw [run_sliceE 24 _ (some _) none rfl Try.underlying24 q hrun]
          exact HK.out _ _ (.inl ⟨Below.refl _ _, by decide⟩) rfl
        · intro L ev w' hC hL hx K hK
          have e3 : ev (.tmp 3) = _ := hx.base 3 (by kernel_rfl)
          have HK := Lib.hid hK
          have HC := Lib.hid hC
          have HL := Lib.hid hL
          have HX := Lib.hid hx
          have hc := hx.cst
          skip
          clear hx hK hC hL
          unfold Run
          simp [execOp, Upon, go_sem, *]
          exact HK.out _ _ (.inl ⟨Below.refl _ _, by decide⟩) rfl
        · intro L ev w' hC hL hx K hK
          have e77 := hx.held 6 _ rfl (by kernel_rfl)
          change ev (.tmp 77) = _ at e77
          have HK := Lib.hid hK
          have HC := Lib.hid hC
          have HL := Lib.hid hL
          have HX := Lib.hid hx
          have hc := hx.cst
          skip
          clear hx hK hC hL
          have cM := cell_of_row _ _ 13 _ _ _ (HPB.out w' HC.out.1)
          rw [M13.out] at cM
          unfold Run
          simp [execOp, Upon, go_sem, *]
          exact HK.out _ _ (.inl ⟨Below.refl _ _, by decide⟩) rfl
        · intro L ev w' hC hL hx K hK
          have e76 := hx.held 5 _ rfl (by kernel_rfl)
          have e78 := hx.held 7 _ rfl (by kernel_rfl)
          change ev (.tmp 76) = _ at e76
          change ev (.tmp 78) = _ at e78
          have HK := Lib.hid hK
          have HC := Lib.hid hC
          have HL := Lib.hid hL
          have HX := Lib.hid hx
          have hc := hx.cst
          skip
          clear hx hK hC hL
          have hC := HC.out
          obtain ⟨hC1, hC2⟩ := hC
          rw [HL.out] at hC2
          have hrun := copy_bytes w' J a d n c9 3 A9 lj p.data hC2 HLJ.out HN.out (by omega) (by omega) ((HR9.out.below (HBW.out w' HC.out.1) HHI.out))
          have HC1 := Lib.hid hC1
          have HC2 := Lib.hid hC2
          clear hC1 hC2
          unfold Run
          rw [run_copyE _ _ 24 rfl e76 e78 hrun]
          refine HK.out _ _ (.inr ⟨⟨grown_setRow HC1.out _, setRow_heap _ _ _ _ _ _ HC2.out⟩, fun j hj hlj u hr => rl_sg (S := fun _ _ => True) (ex := []) 0 (by exact ⟨.inr (is_sg _ _), .inr (is_sg _ _), .inr (is_sg _ _), .inr (is_sg _ _), .inr (is_sg _ _), .inr (is_sg _ _), .inr (is_sg _ _), .inr (is_sg _ _), .inr (is_sg _ _), trivial⟩) j u _ _ rfl trivial hr⟩) rfl
      · exact rl_mono ⟨is_mono _, is_mono _, is_mono _, is_mono _, is_mono _, is_mono _, is_mono _, is_mono _, is_mono _, trivial⟩
      · exact fun L L' w1 he h => ⟨h.1, by rw [← he 8 (by simp)]; exact h.2⟩
      · exact fun L w1 w2 hb h => ⟨grown_below h.1 hb, (hb.block _ (row_lt h.2)).trans h.2⟩
      · exact ⟨World.grownBy.refl _ _, HGJ.out⟩
      · simp
      intro us wr hG hH
      obtain ⟨-, -, -, -, -, -, -, -, -, -⟩ := hH
      simp only [fillM]
      generalize us 71 = v71
      generalize us 72 = v72
      generalize us 73 = v73
      generalize us 74 = v74
      generalize us 75 = v75
      generalize us 76 = v76
      generalize us 77 = v77
      generalize us 78 = v78
      generalize us 79 = v79
      obtain ⟨g1, g2⟩ := hG
      have HG1 := Lib.hid g1
      obtain ⟨ts, hts⟩ : ∃ ts, h.got.filter (touchB p) = ts := ⟨_, rfl⟩
      obtain ⟨xt, hot, hrt⟩ := H3M.out.t
      rw [hts] at hot hrt
      obtain ⟨nt, hnt⟩ : ∃ nt, ts.length = nt := ⟨_, rfl⟩
      rw [hnt] at hot
      have hnt2 : nt ≤ 1000 := by
        rw [← hnt, ← hts]
        exact Nat.le_trans (List.length_filter_le _ _) (by rw [HGM.out]; omega)
      obtain ⟨A6, c6, rfl, h61, h62, h63⟩ := ownk_form hot
      have HTT := Lib.hid ((Tr.own hot).wide (Nat.zero_le _))
      have HRT := Lib.hid hrt
      have HTS := Lib.hid hts
      have HNT := Lib.hid hnt
      have HC6 := Lib.hid (And.intro h61 (And.intro h62 h63))
      have HMIN : Hid (∀ t' ∈ ts, (f : Int) ≤ t'.off ∧ t'.fin ≤ (t : Int) ∧ t'.ok) := fun t' ht' => by
        have h1 := (fold_min_le (fun x => x.off) (h.got.filter (touchB p)) p.off).2 t' (by rw [hts]; exact ht')
        have h2 := (fold_max_le (fun x => x.fin) (h.got.filter (touchB p)) (endP p)).2 t' (by rw [hts]; exact ht')
        have e1 := HF.out
        have e2 := HT.out
        unfold fromP at e1
        unfold toP at e2
        refine ⟨by rw [← e1]; exact h1, by rw [← e2]; exact h2, HOK.out.2.2.2.2.2.2.2 t' ?_⟩
        have : t' ∈ h.got.filter (touchB p) := by rw [hts]; exact ht'
        exact (List.mem_filter.1 this).1
      have HOV : Hid ((over lj a p.data).length = d) := by
        show _ = _
        rw [over_length _ _ _ (by rw [HLJ.out, HN.out]; exact hae), HLJ.out]
      obtain ⟨l0, hl0⟩ : ∃ l0, over lj a p.data = l0 := ⟨_, rfl⟩
      have g2' : wr.heap[J]? = some (.cells (cells l0).toArray 5 (0, 0)) := by rw [← hl0]; exact g2
      rw [hl0] at HOV
      have HL0 := Lib.hid hl0
      have HG2 := Lib.hid g2'
      clear g1 g2 g2' hts hot hrt hnt h61 h62 h63 hl0
      go_wp2
      go_loopw [82] (fun t82 wr => ∃ (j : Nat) (lk : List UInt8), j ≤ nt ∧ t82 = .int .i64 (j : Int) ∧ Hid (lk = laid f l0 (ts.take j)) ∧ Hid (lk.length = d) ∧ Hid (wr.heap[J]? = some (.cells (cells lk).toArray 5 (0, 0))) ∧ Hid (wm.grownBy wr (some J))) (fun t82 _ => nt - (intOf t82).toNat)
      case atStart => exact ⟨0, l0, Nat.zero_le _, rfl, Lib.hid rfl, HOV, HG2, HG1⟩
      case round =>
        obtain ⟨j, lk, hj, rfl, HLK, HLL, HGK, HGW⟩ := hrel
        by_cases hjn : j < nt
        · obtain ⟨pt, hpt⟩ : ∃ pt, ts[j]? = some pt := ⟨_, List.getElem?_eq_getElem (by rw [HNT.out]; exact hjn)⟩
          obtain ⟨v, hcv, A2, c2, rfl, htr2, _⟩ := HRT.out.2 j pt hpt
          obtain ⟨y1, y2, y3⟩ := HMIN.out pt (List.mem_of_getElem? hpt)
          obtain ⟨x0, x1, x2, x3, _⟩ := y3
          obtain ⟨x, hx⟩ := Int.eq_ofNat_of_zero_le x0
          obtain ⟨m2, hm2⟩ : ∃ m2, pt.data.length = m2 := ⟨_, rfl⟩
          unfold Pt.fin at y2
          rw [hx] at x1 hcv y1 y2
          rw [hm2] at x2 x3 hcv y2
          obtain ⟨ad, rfl⟩ : ∃ ad, A6 = some ad := by
            obtain ⟨ad, e, _⟩ := HTT.out.rd 0 _ (List.getElem?_eq_getElem (by rw [HRT.out.1, HNT.out]; omega))
            exact ⟨ad, e⟩
          have HTW := (HTT.out.grown HGW.out fun g C t fr he hh => by
            injection he with he
            subst he
            rw [HGJ.out] at hh
            injection hh with hh
            injection hh with _ h2
            rw [← h2]
            decide)
          have HEL : Hid (∀ i v, ([.int .i64 (x : Int), .slice A2 m2 c2] : List Value)[i]? = some v → wr.cell? ((ad.add (j * 2)).add i) = some v) := by
            show ∀ i v, _
            rw [← hcv]
            exact HTW.rd.elem j
          obtain ⟨a2, ha2⟩ : ∃ a2, a2 = x - f := ⟨_, rfl⟩
          have hfx : f ≤ x := by omega
          have hxt : x + m2 ≤ t := by omega
          have ha3 : a2 + m2 ≤ d := by have := HD.out; omega
          have HS23 : Hid (IntKind.i64.wrap ((x : Int) - (f : Int)) = (a2 : Int)) := by
            rw [show (x : Int) - (f : Int) = (a2 : Int) from by omega]
            exact IntWalk.i64_in _ ⟨by omega, by omega⟩
          have HLS := laid_succ f l0 ts j pt hpt
          rw [hx, show ((x : Int) - (f : Int)).toNat = a2 from by omega, ← HLK.out] at HLS
          have HLS2 := Lib.hid HLS
          have HM2 := Lib.hid hm2
          have HTBP := Lib.hid htr2
          have HX9 := Lib.hid hx
          clear hpt hcv x0 hx hm2 HTW ha2 HLS htr2 y1 y2 x1
          go_wp2_with (first | refine wpList_load_at rfl 128 _ rfl (ad.add (j * 2)) rfl [.int .i64 (x : Int), .slice A2 m2 c2] _ HEL.out Try.underlying128 rfl (by kernel_rfl) ?_ | refine wpList_store_new rfl 128 _ _ rfl wr #[.int .i64 0, .slice none 0 0] #[.int .i64 (x : Int), .slice A2 m2 c2] rfl rfl (by kernel_rfl) rfl rfl ?_)
          obtain ⟨b, hb⟩ : ∃ b, wr.heap.size = b := ⟨_, rfl⟩
          obtain ⟨wq, hwq⟩ : ∃ wq, wr.alloc (.cells #[.int .i64 (x : Int), .slice A2 m2 c2] 128) = wq := ⟨_, rfl⟩
          have hbq : Below wr.heap.size wr wq := by rw [← hwq]; exact (Below.refl _ _).alloc (Nat.le_refl _) _
          have hgq : wq.heap[b]? = some (.cells #[.int .i64 (x : Int), .slice A2 m2 c2] 128 (0, 0)) := by rw [← hwq, ← hb]; exact heap_alloc_new wr _
          have HGQ : Hid (wq.heap[J]? = some (.cells (cells lk).toArray 5 (0, 0))) := (hbq.block _ (row_lt HGK.out)).trans HGK.out
          have HJB : Hid (J ≠ b) := by have := row_lt HGK.out; show _ ≠ _; omega
          have HGW2 := Lib.hid (grown_below HGW.out hbq)
          have HPB2 : Hid (∀ w' : World, wq.grownBy w' (some J) → w'.heap[b]? = some (.cells #[.int .i64 (x : Int), .slice A2 m2 c2] 128 (0, 0))) := fun w' hg => (hg.block b (row_lt hgq) (fun he => by injection he with he; exact HJB.out he.symm)).trans hgq
          have HGT : Hid (∀ w' : World, wq.grownBy w' (some J) → wm.grownBy w' (some J)) := fun w' hg => ⟨hg.os.trans HGW2.out.os, hg.tape.trans HGW2.out.tape, hg.output.trans HGW2.out.output, Nat.le_trans HGW2.out.size hg.size, fun k hk hx => (hg.block k (Nat.lt_of_lt_of_le hk HGW2.out.size) hx).trans (HGW2.out.block k hk hx)⟩
          have HBW2 : Hid (∀ w' : World, wq.grownBy w' (some J) → Below w.heap.size w w') := fun w' hg => HBW.out w' (HGT.out w' hg)
          rw [hb, hwq]
          clear hbq hgq hb hwq
          apply wp_region_relyG [8] (fun L w' => wq.grownBy w' (some J) ∧ w'.heap[J]? = some (.cells (cells (if L 8 then over lk a2 pt.data else lk)).toArray 5 (0, 0))) (RL [Is _, Is _, Is _, Is _, Is _, Is (.slice (some ⟨J, a2, none⟩) (d - a2) (d - a2)), Is _, Is _, Is (goInt m2)]) [false, false, false, false, false, false, false, false, false, false, false, false, false, false, false, false, false, false, false, false, false, false, false, false, false, false, false, false, false, false, false, false, false, false, false, false, false, false, false, false, false, false, false, false, false, false, false, false, false, false, false, false, false, false, false, false, false, false, false, false, false, false, false, false, false, false, false, false, false, false, false, false, false, false, false, false, false, false, false, false, false, false, false, false, false, false, true, true, true, true, true, true, true, true, true, false, false, false, false, false, false, false, false, false, false, false, false, false, false, false, false, false]
          · kernel_rfl
          · kernel_rfl
          · kernel_rfl
          · refine ⟨?_, ?_, ?_, ?_, ?_, ?_, ?_, ?_, ?_, trivial⟩
            · intro L ev w' hC hL hx K hK
              have e12 : ev (.tmp 12) = _ := hx.base 12 (by kernel_rfl)
              have HK := Lib.hid hK
              have HC := Lib.hid hC
              have HL := Lib.hid hL
              have HX := Lib.hid hx
              have hc := hx.cst
              skip
              clear hx hK hC hL
              unfold Run
              simp [execOp, Upon, go_sem, *]
              exact HK.out _ _ (.inl ⟨Below.refl _ _, by decide⟩) rfl
            · intro L ev w' hC hL hx K hK
              have e14 : ev (.tmp 14) = _ := hx.base 14 (by kernel_rfl)
              have HK := Lib.hid hK
              have HC := Lib.hid hC
              have HL := Lib.hid hL
              have HX := Lib.hid hx
              have hc := hx.cst
              skip
              clear hx hK hC hL
              unfold Run
              simp [execOp, Upon, go_sem, *]
              exact HK.out _ _ (.inl ⟨Below.refl _ _, by decide⟩) rfl
            · intro L ev w' hC hL hx K hK
              have e87 := hx.held 1 _ rfl (by kernel_rfl)
              change ev (.tmp 87) = _ at e87
              have HK := Lib.hid hK
              have HC := Lib.hid hC
              have HL := Lib.hid hL
              have HX := Lib.hid hx
              have hc := hx.cst
              skip
              clear hx hK hC hL
              have cM := cell_of_row _ _ 0 _ _ _ (HPB2.out w' HC.out.1)
              simp at cM
              unfold Run
              simp [execOp, Upon, go_sem, *]
              exact HK.out _ _ (.inl ⟨Below.refl _ _, by decide⟩) rfl
            · intro L ev w' hC hL hx K hK
              have e8 : ev (.tmp 8) = _ := hx.base 8 (by kernel_rfl)
              have HK := Lib.hid hK
              have HC := Lib.hid hC
              have HL := Lib.hid hL
              have HX := Lib.hid hx
              have hc := hx.cst
              skip
              clear hx hK hC hL
              unfold Run
              simp [execOp, Upon, go_sem, *]
              exact HK.out _ _ (.inl ⟨Below.refl _ _, by decide⟩) rfl
            · intro L ev w' hC hL hx K hK
              have e88 := hx.held 2 _ rfl (by kernel_rfl)
              have e89 := hx.held 3 _ rfl (by kernel_rfl)
              change ev (.tmp 88) = _ at e88
              change ev (.tmp 89) = _ at e89
              have HK := Lib.hid hK
              have HC := Lib.hid hC
              have HL := Lib.hid hL
              have HX := Lib.hid hx
              have hc := hx.cst
              skip
              clear hx hK hC hL
              have hs2 := HS23.out
              unfold Run
              simp [execOp, Upon, go_sem, *]
              exact HK.out _ _ (.inl ⟨Below.refl _ _, by decide⟩) rfl
            · intro L ev w' hC hL hx K hK
              have e86 := hx.held 0 _ rfl (by kernel_rfl)
              have e90 := hx.held 4 _ rfl (by kernel_rfl)
              change ev (.tmp 86) = _ at e86
              change ev (.tmp 90) = _ at e90
              have HK := Lib.hid hK
              have HC := Lib.hid hC
              have HL := Lib.hid hL
              have HX := Lib.hid hx
              have hc := hx.cst
              skip
              clear hx hK hC hL
              have q : ev (.tmp 86) = .slice (some ⟨J, 0, none⟩) d d := e86
              have hrun : (Instr.slice 24 (.slice (some ⟨J, 0, none⟩) d d) (some (ev (.tmp 90))) none none).run Try.prog w' = .ok (.slice (some ⟨J, a2, none⟩) (d - a2) (d - a2)) w' := by
                rw [e90]
                have := run_slice_l (P := Try.prog) 24 5 1 Try.underlying24 (by kernel_rfl) (some ⟨J, 0, none⟩) d d a2 (by omega) w'
                rw [if_neg (by omega), Option.map_some, Addr.add_mid, Nat.zero_add, Nat.mul_one] at this
                exact this
              unfold Run
              rw [run_sliceE 24 _ (some _) none rfl Try.underlying24 q hrun]
              exact HK.out _ _ (.inl ⟨Below.refl _ _, by decide⟩) rfl
            · intro L ev w' hC hL hx K hK
              have e14 : ev (.tmp 14) = _ := hx.base 14 (by kernel_rfl)
              have HK := Lib.hid hK
              have HC := Lib.hid hC
              have HL := Lib.hid hL
              have HX := Lib.hid hx
              have hc := hx.cst
              skip
              clear hx hK hC hL
              unfold Run
              simp [execOp, Upon, go_sem, *]
              exact HK.out _ _ (.inl ⟨Below.refl _ _, by decide⟩) rfl
            · intro L ev w' hC hL hx K hK
              have e92 := hx.held 6 _ rfl (by kernel_rfl)
              change ev (.tmp 92) = _ at e92
              have HK := Lib.hid hK
              have HC := Lib.hid hC
              have HL := Lib.hid hL
              have HX := Lib.hid hx
              have hc := hx.cst
              skip
              clear hx hK hC hL
              have cM := cell_of_row _ _ 1 _ _ _ (HPB2.out w' HC.out.1)
              simp at cM
              unfold Run
              simp [execOp, Upon, go_sem, *]
              exact HK.out _ _ (.inl ⟨Below.refl _ _, by decide⟩) rfl
            · intro L ev w' hC hL hx K hK
              have e91 := hx.held 5 _ rfl (by kernel_rfl)
              have e93 := hx.held 7 _ rfl (by kernel_rfl)
              change ev (.tmp 91) = _ at e91
              change ev (.tmp 93) = _ at e93
              have HK := Lib.hid hK
              have HC := Lib.hid hC
              have HL := Lib.hid hL
              have HX := Lib.hid hx
              have hc := hx.cst
              skip
              clear hx hK hC hL
              have hC := HC.out
              obtain ⟨hC1, hC2⟩ := hC
              rw [HL.out] at hC2
              have hrun := copy_bytes w' J a2 d m2 c2 3 A2 lk pt.data hC2 HLL.out HM2.out (by omega) (by omega) ((HTBP.out.rd.below (HBW2.out w' HC.out.1) (Nat.le_refl _)))
              have HC1 := Lib.hid hC1
              have HC2 := Lib.hid hC2
              clear hC1 hC2
              unfold Run
              rw [run_copyE _ _ 24 rfl e91 e93 hrun]
              refine HK.out _ _ (.inr ⟨⟨grown_setRow HC1.out _, setRow_heap _ _ _ _ _ _ HC2.out⟩, fun j hj hlj u hr => rl_sg (S := fun _ _ => True) (ex := []) 0 (by exact ⟨.inr (is_sg _ _), .inr (is_sg _ _), .inr (is_sg _ _), .inr (is_sg _ _), .inr (is_sg _ _), .inr (is_sg _ _), .inr (is_sg _ _), .inr (is_sg _ _), .inr (is_sg _ _), trivial⟩) j u _ _ rfl trivial hr⟩) rfl
          · exact rl_mono ⟨is_mono _, is_mono _, is_mono _, is_mono _, is_mono _, is_mono _, is_mono _, is_mono _, is_mono _, trivial⟩
          · exact fun L L' w1 he h => ⟨h.1, by rw [← he 8 (by simp)]; exact h.2⟩
          · exact fun L w1 w2 hb h => ⟨grown_below h.1 hb, (hb.block _ (row_lt h.2)).trans h.2⟩
          · exact ⟨World.grownBy.refl _ _, HGQ.out⟩
          · simp
          intro us wr hG hH
          obtain ⟨-, -, -, -, -, -, -, -, -, -⟩ := hH
          simp only [fillM]
          generalize us 86 = v86
          generalize us 87 = v87
          generalize us 88 = v88
          generalize us 89 = v89
          generalize us 90 = v90
          generalize us 91 = v91
          generalize us 92 = v92
          generalize us 93 = v93
          generalize us 94 = v94
          obtain ⟨g1, g2⟩ := hG
          have HG3 := Lib.hid (HGT.out _ g1)
          have HG4 : Hid (wr.heap[J]? = some (.cells (cells (over lk a2 pt.data)).toArray 5 (0, 0))) := g2
          have HL3 : Hid ((over lk a2 pt.data).length = d) := by
            show _ = _
            rw [over_length _ _ _ (by rw [HLL.out, HM2.out]; exact ha3), HLL.out]
          clear g1 g2
          go_wp2
          go_roundw
          case rel => exact ⟨j + 1, over lk a2 pt.data, by omega, by go_num, HLS2.out.symm, HL3, HG4, HG3⟩
          case measure => simp [intOf]; omega
        · obtain rfl : j = nt := by omega
          have hlk : lk = joinP p h.got := by
            rw [HLK.out, List.take_of_length_le (Nat.le_of_eq HNT.out), ← HTS.out, ← HL0.out, ← HLJ0.out]
            unfold joinP laid
            rw [HF.out, HT.out, HO.out, show ((t : Int) - (f : Int)).toNat = d from by have := HD.out; omega, show ((o : Int) - (f : Int)).toNat = a from by have := HAA.out; omega]
          have HBN := Lib.hid (HBW.out _ HGW.out)
          have hkeep : ∀ v ps, OwnPs w wm w7.heap.size v ps → (∀ k, v.ownBlock = some k → k < J) → OwnPs w wr w7.heap.size v ps := fun v ps ⟨xs, h1, h2⟩ hlt => by
            refine ⟨xs, h1.kept HGW.out ?_, h2⟩
            cases hv : v.ownBlock with
            | none => exact .inl rfl
            | some k => exact .inr fun he => by injection he with he; have := hlt k hv; omega
          have pa := (hkeep _ _ H3M.out.a (fun k hk => by rw [← HJ.out]; exact H3.out.a.lt k hk)).pts HBN.out
          have pb := (hkeep _ _ H3M.out.b (fun k hk => by rw [← HJ.out]; exact H3.out.b.lt k hk)).pts HBN.out
          obtain ⟨la, hla⟩ : ∃ la, h.got.filter (aheadB p) = la := ⟨_, rfl⟩
          obtain ⟨lb, hlb⟩ : ∃ lb, h.got.filter (behindB p) = lb := ⟨_, rfl⟩
          rw [hla] at pa
          rw [hlb] at pb
          have HPA := Lib.hid pa
          have HPB3 := Lib.hid pb
          obtain ⟨A5, c5, xs5, rfl, _⟩ := pa
          obtain ⟨A7, c7, xs7, rfl, _⟩ := pb
          obtain ⟨na, hna⟩ : ∃ na, la.length = na := ⟨_, rfl⟩
          obtain ⟨nb, hnb⟩ : ∃ nb, lb.length = nb := ⟨_, rfl⟩
          rw [hna] at HPA ⊢
          rw [hnb] at HPB3 ⊢
          have hab : na + nb ≤ 999 := by
            have := split_le p h.got
            rw [hla, hlb, hna, hnb, HGM.out] at this
            omega
          have HLAS := Lib.hid (And.intro hla (And.intro hlb hlk))
          have HNAB := Lib.hid (And.intro hna hnb)
          clear hkeep hla hlb hlk hna hnb
          go_wp2_with (refine wpList_build_one rfl 107 128 _ rfl #[.int .i64 (f : Int), .slice (some ⟨J, 0, none⟩) d d] rfl Try.underlying107 2 (by decide) (by decide) (by kernel_rfl) rfl ?_)
          obtain ⟨w9, hw9⟩ : ∃ w9, (wr.alloc (.cells #[.int .i64 (f : Int), .slice (some ⟨J, 0, none⟩) d d] 128)).alloc (.cells #[.slice A5 na c5, .slice (some ⟨wr.heap.size, 0, none⟩) 1 1, .slice A7 nb c7] 107) = w9 := ⟨_, rfl⟩
          have hb9 : Below wr.heap.size wr w9 := by rw [← hw9]; exact ((Below.refl _ _).alloc (Nat.le_refl _) _).alloc (by simp) _
          have hg9 : w9.heap[wr.heap.size]? = some (.cells #[.int .i64 (f : Int), .slice (some ⟨J, 0, none⟩) d d] 128 (0, 0)) := by rw [← hw9]; exact old_alloc (heap_alloc_new wr _) _
          have hj9 : w9.heap[J]? = some (.cells (cells lk).toArray 5 (0, 0)) := (hb9.block _ (row_lt HGK.out)).trans HGK.out
          have hk9 : Keeps wr w9 := Keeps.below hb9 (Nat.le_refl _)
          have hrd9 : Rd w9 0 w9.heap.size (some ⟨wr.heap.size + 1, 0, none⟩) [.slice A5 na c5, .slice (some ⟨wr.heap.size, 0, none⟩) 1 1, .slice A7 nb c7] := by
            have := rd_new (wr.alloc (.cells #[.int .i64 (f : Int), .slice (some ⟨J, 0, none⟩) d d] 128)) [.slice A5 na c5, .slice (some ⟨wr.heap.size, 0, none⟩) 1 1, .slice A7 nb c7] 107 (0, 0)
            rw [World.size_alloc] at this
            rw [← hw9]
            exact this.wide (Nat.zero_le _) (by simp)
          have hdm : d ≤ maxLen := by unfold maxLen; have := HD.out; omega
          have hpt9 : PtT w9 [.int .i64 (f : Int), .slice (some ⟨J, 0, none⟩) d d] ⟨(f : Int), lk⟩ := ⟨_, rfl, some ⟨J, 0, none⟩, d, by rw [HLL.out], fun k u hk => ⟨J, 0, (cells lk).toArray, rfl, Nat.zero_le _, hj9, by simpa using hk⟩, by rw [HLL.out]; exact Nat.le_refl _, hdm, fun h => by cases h⟩
          have hmid : PtsT w9 (.slice (some ⟨wr.heap.size, 0, none⟩) 1 1) [⟨(f : Int), lk⟩] := ⟨some ⟨wr.heap.size, 0, none⟩, 1, [.int .i64 (f : Int), .slice (some ⟨J, 0, none⟩) d d], rfl, fun k u hk => ⟨wr.heap.size, 0, _, rfl, Nat.zero_le _, hg9, by simpa using hk⟩, RowOf.one hpt9 rfl, Nat.le_refl _, by decide, fun h => by cases h⟩
          have hsl : Slices w9 [.slice A5 na c5, .slice (some ⟨wr.heap.size, 0, none⟩) 1 1, .slice A7 nb c7] [la, [⟨(f : Int), lk⟩], lb] := ⟨rfl, fun i ps hi => by
            rcases i with _ | _ | _ | i
            · simp at hi; subst hi; exact ⟨_, rfl, HPA.out.keeps hk9⟩
            · simp at hi; subst hi; exact ⟨_, rfl, hmid⟩
            · simp at hi; subst hi; exact ⟨_, rfl, HPB3.out.keeps hk9⟩
            · simp at hi⟩
          have hfl : ([la, [⟨(f : Int), lk⟩], lb] : List (List Pt)).flatten = la ++ [⟨(f : Int), lk⟩] ++ lb := by simp
          have hcc := concatp_any ⟨wr.heap.size + 1, 0, none⟩ 3 _ [la, [⟨(f : Int), lk⟩], lb] w9 hrd9 hsl (by rw [hfl]; simp only [List.length_append, List.length_cons, List.length_nil, HNAB.out.1, HNAB.out.2]; omega) (by simp)
          obtain ⟨gt, hgt⟩ : ∃ gt, la ++ [⟨(f : Int), lk⟩] ++ lb = gt := ⟨_, rfl⟩
          have hgotL : gt = (layP h p).got := by
            rw [← hgt, ← HLAS.out.1, ← HLAS.out.2.1, HLAS.out.2.2, ← HF.out]
            rfl
          obtain ⟨q, hq⟩ : ∃ q, gt.length = q := ⟨_, rfl⟩
          have hqe : q = na + 1 + nb := by rw [← hq, ← hgt]; simp only [List.length_append, List.length_cons, List.length_nil, HNAB.out.1, HNAB.out.2]
          have hokP : ∀ t' ∈ gt, t'.ok := fun t' ht' => by
            rw [← hgt] at ht'
            rcases List.mem_append.1 ht' with ht' | ht'
            · rcases List.mem_append.1 ht' with ht' | ht'
              · rw [← HLAS.out.1] at ht'
                exact HOK.out.2.2.2.2.2.2.2 t' (List.mem_filter.1 ht').1
              · rw [List.mem_singleton] at ht'
                subst ht'
                have h1 := HLL.out
                have h2 := HD.out
                refine ⟨?_, ?_, ?_, ?_, ?_⟩ <;> simp only [h1] <;> omega
            · rw [← HLAS.out.2.1] at ht'
              exact HOK.out.2.2.2.2.2.2.2 t' (List.mem_filter.1 ht').1
          rw [hfl, hgt, hq] at hcc
          have hbk : ∀ b C ty, w7.heap[b]? = some (.cells C ty (0, 0)) → b < w.heap.size + 3 → wr.heap[b]? = some (.cells C ty (0, 0)) := fun b C ty hh hlt => by
            have h1 := (HBM.out.block _ (row_lt hh)).trans hh
            exact (HGW.out.block _ (row_lt h1) (fun he => by injection he with he; have := HWJ.out; omega)).trans h1
          have HX9 := Lib.hid ((hb9.block _ (row_lt (hbk _ _ _ HX7.out (by omega)))).trans (hbk _ _ _ HX7.out (by omega)))
          have HY9 := Lib.hid ((hb9.block _ (row_lt (hbk _ _ _ HY7.out (by omega)))).trans (hbk _ _ _ HY7.out (by omega)))
          have HZ9 := Lib.hid ((hb9.block _ (row_lt (hbk _ _ _ HZ7.out (by omega)))).trans (hbk _ _ _ HZ7.out (by omega)))
          have HB9 := Lib.hid (HBN.out.trans (hb9.mono HBN.out.size))
          have HCC := Lib.hid hcc
          have HGL := Lib.hid hgotL
          have HQ := Lib.hid hq
          have HOP := Lib.hid hokP
          have hq1 : q ≤ 1000 := by omega
          rw [hw9]
          clear hb9 hg9 hj9 hk9 hrd9 hdm hpt9 hmid hsl hfl hcc hgt hgotL hq hqe hokP hbk hw9 HPA HPB3 HGK HLK hab
          refine HCC.out.mono ?_
          rintro e' w10 ⟨v10, xs10, rfl, hown, hrow, hb10⟩
          obtain ⟨A10, c10, rfl, hc10⟩ := ownk_form hown
          have hx10 := (hb10.block _ (row_lt HX9.out)).trans HX9.out
          have hy10 := (hb10.block _ (row_lt HY9.out)).trans HY9.out
          have hz10 := (hb10.block _ (row_lt HZ9.out)).trans HZ9.out
          have hp10 : PtsT w10 (.slice A10 q c10) gt := ⟨A10, c10, xs10, by rw [HQ.out], (Tr.own hown).wide (Nat.zero_le _), hrow, by rw [HQ.out]; exact hc10.1, hc10.2⟩
          have HB10 := Lib.hid (HB9.out.trans (hb10.mono HB9.out.size))
          have hds : ds = (hkC h v00).toArray := by rw [← HDS.out]
          have hc13 : w10.cell? ⟨w.heap.size, 13, none⟩ = some (.slice A k c) := by rw [cell_of_row _ _ _ _ _ _ hx10]; exact K13.out
          have hf13 := frozen_of_row _ _ 13 _ _ hx10
          have hy := heap_setCell_same w10 w.heap.size 13 ds 109 (.slice A10 q c10) hx10
          rw [show ds.setIfInBounds 13 (.slice A10 q c10) = (hkC h (.slice A10 q c10)).toArray from by rw [hds]; exact hkS_13 HOK.out v00 _] at hy
          obtain ⟨w11, hw11⟩ : ∃ w11, w10.setCell ⟨w.heap.size, 13, none⟩ (.slice A10 q c10) = w11 := ⟨_, rfl⟩
          rw [hw11] at hy
          have hoth : ∀ b, b ≠ w.heap.size → w11.heap[b]? = w10.heap[b]? := fun b hb => by rw [← hw11]; exact heap_setCell_other _ _ _ _ hb
          have HX11 := Lib.hid hy
          have HY11 := Lib.hid ((hoth _ (by omega)).trans hy10)
          have HZ11 := Lib.hid ((hoth _ (by omega)).trans hz10)
          have HP11 := Lib.hid (hp10.keeps (Keeps.other hx10 (by decide) hoth))
          have HB11 : Hid (Below w.heap.size w w11) := by show Below _ _ _; rw [← hw11]; exact HB10.out.setCell (Nat.le_refl _) _
          have m11 : w11.cell? ⟨w.heap.size + 1, 1, none⟩ = some (.bool p.more) := by rw [cell_of_row _ _ _ _ _ _ HY11.out]; exact M1.out
          have HSC : Hid (∀ z, ((hkC { h with fin := z } (.slice A10 q c10)).toArray).size = 14) := fun z => by
            have h1 := hkC_len HOK.out (.slice A10 q c10)
            simp [hkC] at h1 ⊢
            exact h1
          have HSZZ : Hid (Z.size = 14) := by show _ = _; rw [HZ.out]; rfl
          have HLO : Hid (∀ z : Int, (if p.more = true then h.fin else endP p) = z → -1 ≤ z → z ≤ 1000 → ∀ W, PtsT W (.slice A10 q c10) gt → HkT W (hkC { h with fin := z } (.slice A10 q c10)) (layP h p)) := fun z hz h1 h2 W hW => by
            refine ⟨.slice A10 q c10, ?_, ⟨HOK.out.1, HOK.out.2.1, HOK.out.2.2.1, HOK.out.2.2.2.1, ?_, ?_, ?_, ?_⟩, ?_⟩
            · unfold layP
              rw [hz]
              rfl
            · show -1 ≤ (if p.more = true then h.fin else endP p)
              rw [hz]
              exact h1
            · show (if p.more = true then h.fin else endP p) ≤ 1000
              rw [hz]
              exact h2
            · rw [← HGL.out, HQ.out]
              exact hq1
            · rw [← HGL.out]
              exact HOP.out
            · rw [← HGL.out]
              exact hW
          have hfb := HOK.out.2.2.2.2.1
          have hfb2 := HOK.out.2.2.2.2.2.1
          clear hown hrow hb10 hc10 hy10 hz10 hp10 hds hy hoth
          by_cases hmo : p.more = true
          · rw [hmo] at m11
            have HLO1 := Lib.hid (HLO.out h.fin (by rw [if_pos hmo]) hfb hfb2)
            obtain ⟨C1, hC1⟩ : ∃ C1, (hkC h (.slice A10 q c10)).toArray = C1 := ⟨_, rfl⟩
            have HSC1 : Hid (C1.size = 14) := by show _ = _; rw [← hC1]; exact HSC.out h.fin
            have HONE : Hid (C1.all (·.oneCell') = true) := by show _ = _; rw [← hC1]; exact one_hkC _ _ _ _
            rw [hC1] at HX11
            have HC1 := Lib.hid hC1
            clear hC1 hfb hfb2 hmo
            go_wp2_with (first | refine wpList_load_row rfl 109 _ rfl w.heap.size rfl 109 C1 (0, 0) _ HX11.out Try.underlying109 rfl (size_hk HSC1.out) ?_ | refine wpList_store_row rfl 109 _ _ rfl (w.heap.size + 2) C1 rfl rfl 109 Z HZ11.out (size_hk HSC1.out) (by rw [HSZZ.out, HSC1.out]) HONE.out ?_)
            (try simp only [Exit.inBlock, Exit.then])
            refine ret_one (g := w.heap.size + 2) rfl rfl (setRow_heap _ _ _ _ _ _ HZ11.out) Try.underlying109 rfl (size_hk HSC1.out) rfl ?_
            refine ⟨C1, rfl, ?_, below_setRow HB11.out (by omega) _⟩
            rw [← HC1.out]
            exact HLO1.out _ (HP11.out.keeps (Keeps.other HZ11.out (by decide) fun j hj => setRow_other _ _ _ _ hj))
          · have hmf : p.more = false := by
              cases hmm : p.more
              · rfl
              · exact absurd hmm hmo
            rw [hmf] at m11
            have HLO1 := Lib.hid (HLO.out (e : Int) (by rw [if_neg hmo]; exact HEE.out) (by omega) (by omega))
            clear hfb hfb2 hmo hmf
            go_wp2_with (first | refine wpList_load_row rfl 60 _ rfl (w.heap.size + 1) rfl 60 cs (0, 0) _ HY11.out Try.underlying60 rfl (size_pk HS1.out) ?_)
            refine (HEND.out w11 HB11.out).mono ?_
            rintro e' w12 ⟨rfl, hb12⟩
            have hx12 := (hb12.block _ (row_lt HX11.out)).trans HX11.out
            have hc12 : w12.cell? ⟨w.heap.size, 12, none⟩ = some (.int .i64 h.fin) := by
              rw [cell_of_row _ _ _ _ _ _ hx12]
              obtain ⟨s0, s1, s2, s3, e1⟩ := four_of h.src HOK.out.2.1
              obtain ⟨d0, d1, d2, d3, e2⟩ := four_of h.dst HOK.out.2.2.1
              simp only [hkC, e1, e2]
              rfl
            have hf12 := frozen_of_row _ _ 12 _ _ hx12
            have hy := heap_setCell_same w12 w.heap.size 12 _ 109 (.int .i64 (e : Int)) hx12
            rw [hkS_12 HOK.out] at hy
            obtain ⟨w13, hw13⟩ : ∃ w13, w12.setCell ⟨w.heap.size, 12, none⟩ (.int .i64 (e : Int)) = w13 := ⟨_, rfl⟩
            rw [hw13] at hy
            have hoth : ∀ b, b ≠ w.heap.size → w13.heap[b]? = w12.heap[b]? := fun b hb => by rw [← hw13]; exact heap_setCell_other _ _ _ _ hb
            obtain ⟨C1, hC1⟩ : ∃ C1, (hkC { h with fin := (e : Int) } (.slice A10 q c10)).toArray = C1 := ⟨_, rfl⟩
            have HSC1 : Hid (C1.size = 14) := by show _ = _; rw [← hC1]; exact HSC.out (e : Int)
            have HONE : Hid (C1.all (·.oneCell') = true) := by show _ = _; rw [← hC1]; exact one_hkC _ _ _ _
            rw [hC1] at hy
            have HC1 := Lib.hid hC1
            have HX13 := Lib.hid hy
            have HZ13 := Lib.hid ((hoth _ (by omega)).trans ((hb12.block _ (row_lt HZ11.out)).trans HZ11.out))
            have HB13 : Hid (Below w.heap.size w w13) := by show Below _ _ _; rw [← hw13]; exact (HB11.out.trans (hb12.mono HB11.out.size)).setCell (Nat.le_refl _) _
            have HP13 := Lib.hid ((HP11.out.keeps (Keeps.below hb12 (Nat.le_refl _))).keeps (Keeps.other hx12 (by decide) hoth))
            clear hC1 hy hoth hb12 hx12
            go_wp2_with (first | refine wpList_load_row rfl 109 _ rfl w.heap.size rfl 109 C1 (0, 0) _ HX13.out Try.underlying109 rfl (size_hk HSC1.out) ?_ | refine wpList_store_row rfl 109 _ _ rfl (w.heap.size + 2) C1 rfl rfl 109 Z HZ13.out (size_hk HSC1.out) (by rw [HSZZ.out, HSC1.out]) HONE.out ?_)
            (try simp only [Exit.inBlock, Exit.then])
            refine ret_one (g := w.heap.size + 2) rfl rfl (setRow_heap _ _ _ _ _ _ HZ13.out) Try.underlying109 rfl (size_hk HSC1.out) rfl ?_
            refine ⟨C1, rfl, ?_, below_setRow HB13.out (by omega) _⟩
            rw [← HC1.out]
            exact HLO1.out _ (HP13.out.keeps (Keeps.other HZ13.out (by decide) fun j hj => setRow_other _ _ _ _ hj))
end Go.Proofs.Ytjgdmkmfnkaoaaa.F
