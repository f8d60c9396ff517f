/-
  bytes.Clone, frag.cut, frag.end and frag.formed: their answers, for every packet that can be read. No condition.
-/
import Derived.Test.YtogplhdcicajgaaPv
import Derived.Laws.CopyOwn
namespace Go.Proofs.Ytogplhdcicajgaa
open Go.RowKit

theorem info_u8 : (Try.prog.info? 5).map (fun i => (i.zero, i.size, i.bytes)) = some (some (.int .u8 0), 1, 1) := by kernel_rfl
theorem ret_one {P : Program} {fn : Func} {R : Ending → World → Prop} {a : Act} {w : World} {p : Tmp} {ty : TypeId} {g : Nat} {cs : Array Value} {t : TypeId} {fr : Nat × Nat} {d : TypeDesc} (h : fn.results = #[.cell p ty]) (hp : a.tmps.getD p undef = .pointer (some ⟨g, 0, none⟩))
    (hg : w.heap[g]? = some (.cells cs t fr)) (hu : P.underlying ty = some d) (hd : d.isRow = true) (hi : (P.info? ty).map (·.size) = some cs.size) (hdf : a.defers = []) (hR : R (.returned (.agg cs)) w) : bodyPost P fn R .ret a w := by
  refine bodyPost_ret (v := .agg cs) ?_ hdf hR
  exact results_cell_row h a.tmps w g t cs fr d hp hg hu (by cases d <;> first | rfl | cases hd) hi

theorem below_setRow {B : Nat} {w w1 : World} (h : Below B w w1) {g : Nat} (hg : B ≤ g) (cs : Array Value) : Below B w (w1.setRow g cs) :=
  ⟨h.os, h.tape, h.output, by simp [World.setRow]; exact h.size, fun k hk => (setRow_other w1 g k cs (by omega)).trans (h.block k hk)⟩
/-- bytes in rows of bytes, from block lo on -/
def TB (w : World) (lo : Nat) (l : List UInt8) (v : Value) : Prop := ∃ A c, v = .slice A l.length c ∧ Tr w lo 5 A (cells l) ∧ l.length ≤ c ∧ c ≤ maxLen ∧ (A = none → c = 0)
section
variable {w w' : World} {lo : Nat} {l : List UInt8} {v : Value}
theorem TB.keep (h : TB w lo l v) (hk : ∀ A, Tr w lo 5 A (cells l) → Tr w' lo 5 A (cells l)) : TB w' lo l v := by
  obtain ⟨A, c, e, h1, h2⟩ := h
  exact ⟨A, c, e, hk A h1, h2⟩
theorem TB.below {B : Nat} (h : TB w lo l v) (hb : Below B w w') (hB : w.heap.size ≤ B) : TB w' lo l v := h.keep fun _ h => h.below hb hB
theorem TB.wide {lo' : Nat} (h : TB w lo l v) (hl : lo' ≤ lo) : TB w lo' l v := by
  obtain ⟨A, c, e, h1, h2⟩ := h
  exact ⟨A, c, e, h1.wide hl, h2⟩
end

theorem clone_any (A : Option Addr) (l : List UInt8) (n c lo hi : Nat) (w : World) (h : Rd w lo hi A (cells l)) (hn : l.length = n) (hA : A = none → n = 0) (hhi : hi ≤ w.heap.size) (hm : n ≤ 1000000000) :
    Calls Try.prog 23 #[.slice A n c] w fun e w' => ∃ v, e = .returned v ∧ TB w' w.heap.size l v ∧ Below w.heap.size w w' := by
  obtain ⟨i0, hi0, hz0, hz1, hz2⟩ := info_parts info_u8
  have HR := Lib.hid h
  have HH := Lib.hid hhi
  have HN := Lib.hid hn
  clear h hhi hn
  have hnil := Lib.run_eql_slice_nil (P := Try.prog) w 25 5 A n c 0 0 Try.underlying25
  rcases A with _ | ad
  · have HL : Hid (l = []) := List.eq_nil_of_length_eq_zero (HN.out.trans (hA rfl))
    clear hA
    go_enter Try.func23, Try.ntmps23
    go_wp2
    go_ret
    exact ⟨_, rfl, ⟨none, 0, by rw [HL.out]; rfl, by rw [HL.out]; exact Tr.nil, by rw [HL.out]; exact Nat.le_refl _, Nat.zero_le _, fun _ => rfl⟩, Below.refl _ _⟩
  · clear hA
    go_enter Try.func23, Try.ntmps23
    go_wp2_with (at_builtin; refine wpList_append_rd rfl _ _ 25 rfl w.heap.size 5 i0 (.int .u8 0) 1 Try.underlying25 hi0 hz0 hz1 hz2 rfl _ _ _ rfl (own_lit _ [] _ _ w.heap.size 0 (by simp) (by simp) (by unfold maxLen; omega) rfl) (some ad) n c (cells l) rfl (fun h => by cases h) (by rw [cells_length]; exact HN.out) ((HR.out.alloc HH.out _)) (cells_one l) (by unfold maxLen; omega) (by omega) (by simp) ?_)
    intro v2 w2 hown2 hgrow2
    have HB : Hid (Below w.heap.size w w2) := ((Below.refl w.heap.size w).alloc (Nat.le_refl _) _).grown hgrow2 (by simp) fun g hg => by simp [Value.ownBlock] at hg; omega
    obtain ⟨A5, c5, hv, h1, h2, h3⟩ := ownk_form hown2
    rw [hv] at hown2 ⊢
    have HC := Lib.hid h1
    have HM := Lib.hid h2
    have HA := Lib.hid h3
    have HO := Lib.hid (Tr.own hown2)
    clear hown2 hgrow2 hv h1 h2 h3
    go_wp2
    go_ret
    exact ⟨_, rfl, ⟨A5, c5, by rw [HN.out]; rfl, HO.out, by rw [HN.out]; have := HC.out; omega, HM.out, HA.out⟩, HB.out⟩

theorem PkV.off_cell {w : World} {lo hi : Nat} {cs : Array Value} {p : Pk} (h : PkV w lo hi cs p) : cs[2]? = some (.int .i64 p.off) := by
  obtain ⟨A, c, rfl, _⟩ := h
  rfl
theorem rd_none {w : World} {lo hi : Nat} {A : Option Addr} {l : List UInt8} (h : Rd w lo hi A (cells l)) : A = none → l.length = 0 := by
  rintro rfl
  rcases l with _ | ⟨x, r⟩
  · rfl
  · obtain ⟨ad, e, _⟩ := h.byte (k := 0) (by simp)
    cases e
theorem pkC_one (p : Pk) (v : Value) (hv : v.oneCell' = true) : ∀ u ∈ pkC p v, u.oneCell' = true := by
  intro u hu
  simp only [pkC, List.mem_append, List.mem_cons, List.not_mem_nil, or_false] at hu
  rcases hu with rfl | rfl | rfl | rfl | rfl | (hu | hu) | rfl
  · rfl
  · rfl
  · rfl
  · rfl
  · rfl
  · exact cells_one _ u hu
  · exact cells_one _ u hu
  · exact hv
/-- cells that read as a packet, its data in rows of bytes from block lo on -/
def PkT (w : World) (lo : Nat) (cs : List Value) (p : Pk) : Prop := ∃ v, cs = pkC p v ∧ p.ok ∧ (-9223372036854775808 ≤ p.off ∧ p.off ≤ 9223372036854775807) ∧ TB w lo p.data v
section
variable {w w' : World} {lo : Nat} {cs : List Value} {p : Pk}
theorem PkT.below {B : Nat} (h : PkT w lo cs p) (hb : Below B w w') (hB : w.heap.size ≤ B) : PkT w' lo cs p := by
  obtain ⟨v, e, h1, h2, h3⟩ := h
  exact ⟨v, e, h1, h2, h3.below hb hB⟩
theorem PkT.pkV (h : PkT w lo cs p) : PkV w lo w.heap.size cs.toArray p := by
  obtain ⟨v, e, h1, h2, A, c, rfl, h3, h4⟩ := h
  exact ⟨A, c, by rw [e], h1, h2, h3.rd, h4⟩
theorem PkT.one (h : PkT w lo cs p) : ∀ u ∈ cs, u.oneCell' = true := by
  have := h.pkV.one
  simpa [Array.all_eq_true_iff_forall_mem] using this
theorem PkT.len (h : PkT w lo cs p) : cs.length = 14 := by simpa using h.pkV.size
end

set_option maxRecDepth 100000 in
set_option maxHeartbeats 1000000 in
theorem cut_any (cs : Array Value) (p : Pk) (m : Bool) (A : Option Addr) (l : List UInt8) (n c lo hi lo2 hi2 : Nat) (w : World) (h : PkV w lo hi cs p) (hr : Rd w lo2 hi2 A (cells l)) (hn : l.length = n) (hA : A = none → n = 0) (hhi : hi2 ≤ w.heap.size) (hm : n ≤ 1000000000) :
    Calls Try.prog 10 #[.agg cs, .slice A n c, .bool m] w fun e w' => ∃ ds, e = .returned (.agg ds) ∧ PkT w' w.heap.size ds.toList { p with more := m, data := l } ∧ Below w.heap.size w w' := by
  obtain ⟨A0, c0, he, hok, hoff, _⟩ := h
  have HOK := Lib.hid hok
  have HOF := Lib.hid hoff
  obtain ⟨id, mr, off, ttl, proto, src, dst, data⟩ := p
  obtain ⟨_, hs, hd⟩ := hok
  simp only at hs hd he
  obtain ⟨s0, s1, s2, s3, rfl⟩ := four_of src hs
  obtain ⟨d0, d1, d2, d3, rfl⟩ := four_of dst hd
  subst he
  have HN := Lib.hid hn
  clear hs hd hoff
  simp only [pkC, cells, List.map_cons, List.map_nil, List.cons_append, List.nil_append]
  have HCL := fun w' (h : Below w.heap.size w w') => clone_any A l n c lo2 hi2 w' (hr.below h hhi) hn hA (by have := h.size; omega) hm
  clear hr hn hA
  go_enter Try.func10, Try.ntmps10
  go_wp2_with fail
  obtain ⟨C1, hC1⟩ : ∃ C1 : Array Value, C1 = #[.int .u16 (id : Int), .bool m, .int .i64 off, .int .u8 (ttl.toNat : Int), .int .u8 (proto.toNat : Int), .int .u8 (s0.toNat : Int), .int .u8 (s1.toNat : Int), .int .u8 (s2.toNat : Int), .int .u8 (s3.toNat : Int), .int .u8 (d0.toNat : Int), .int .u8 (d1.toNat : Int), .int .u8 (d2.toNat : Int), .int .u8 (d3.toNat : Int), .slice A0 data.length c0] := ⟨_, rfl⟩
  obtain ⟨C2, hC2⟩ : ∃ C2 : Array Value, C2 = #[.int .u16 0, .bool false, .int .i64 0, .int .u8 0, .int .u8 0, .int .u8 0, .int .u8 0, .int .u8 0, .int .u8 0, .int .u8 0, .int .u8 0, .int .u8 0, .int .u8 0, .slice none 0 0] := ⟨_, rfl⟩
  have HC1 := Lib.hid hC1
  have HC2 := Lib.hid hC2
  rw [← hC1, ← hC2]
  clear hC1 hC2
  have HB1 := Lib.hid (((Below.refl w.heap.size w).alloc (Nat.le_refl _) (.cells C1 27)).alloc (by simp) (.cells C2 27))
  have HG1 : Hid (((w.alloc (.cells C1 27)).alloc (.cells C2 27)).heap[w.heap.size]? = some (.cells C1 27 (0, 0))) := old_alloc (heap_alloc_new w _) _
  have HG2 : Hid (((w.alloc (.cells C1 27)).alloc (.cells C2 27)).heap[w.heap.size + 1]? = some (.cells C2 27 (0, 0))) := by
    have := heap_alloc_new (w.alloc (.cells C1 27)) (.cells C2 27)
    rwa [World.size_alloc] at this
  generalize (w.alloc (.cells C1 27)).alloc (.cells C2 27) = w1 at HB1 HG1 HG2 ⊢
  refine (HCL w1 HB1.out).mono ?_
  rintro e w2 ⟨v, rfl, hv, hb2⟩
  have HV := Lib.hid (hv.wide HB1.out.size)
  obtain ⟨A5, c5, rfl, _⟩ := hv
  obtain ⟨q, hq⟩ : ∃ q, l.length = q := ⟨_, rfl⟩
  rw [hq] at HV ⊢
  clear hq
  have HB2 := Lib.hid (HB1.out.trans (hb2.mono HB1.out.size))
  have hx1 := (hb2.block _ (row_lt HG1.out)).trans HG1.out
  have hx2 := (hb2.block _ (row_lt HG2.out)).trans HG2.out
  have HX1 := Lib.hid hx1
  have HX2 := Lib.hid hx2
  have hc13 : w2.cell? ⟨w.heap.size, 13, none⟩ = some (.slice A0 data.length c0) := by rw [cell_of_row _ _ _ _ _ _ hx1, HC1.out]; rfl
  have hf13 := frozen_of_row _ _ 13 _ _ hx1
  have HY1 := Lib.hid (heap_setCell_same w2 w.heap.size 13 C1 27 (.slice A5 q c5) hx1)
  have HY2 := Lib.hid ((heap_setCell_other w2 ⟨w.heap.size, 13, none⟩ (w.heap.size + 1) (.slice A5 q c5) (by simp)).trans hx2)
  obtain ⟨C3, hC3⟩ : ∃ C3, C1.setIfInBounds 13 (.slice A5 q c5) = C3 := ⟨_, rfl⟩
  rw [hC3] at HY1
  have HC3 : Hid (C3 = (pkC ⟨id, m, off, ttl, proto, [s0, s1, s2, s3], [d0, d1, d2, d3], l⟩ (.slice A5 q c5)).toArray) := by
    show _ = _
    rw [← hC3, HC1.out]
    rfl
  have HS3 : Hid (C3.size = 14 ∧ C2.size = 14 ∧ C3.all (·.oneCell') = true) := by
    refine ⟨by rw [HC3.out]; rfl, by rw [HC2.out]; rfl, ?_⟩
    rw [HC3.out]
    exact all_one (pkC_one _ _ rfl)
  clear hb2 hx1 hx2 hC3 HG1 HG2
  go_wp2_with (first | refine wpList_load_row rfl 27 _ rfl w.heap.size rfl 27 C3 (0, 0) _ HY1.out Try.underlying27 rfl (size_pk HS3.out.1) ?_ | refine wpList_store_row rfl 27 _ _ rfl (w.heap.size + 1) C3 rfl rfl 27 C2 HY2.out (size_pk HS3.out.1) (by rw [HS3.out.1, HS3.out.2.1]) HS3.out.2.2 ?_)
  refine ret_one (g := w.heap.size + 1) rfl rfl (setRow_heap _ _ _ _ _ _ HY2.out) Try.underlying27 rfl (size_pk HS3.out.1) rfl ?_
  refine ⟨C3, rfl, ?_, ?_⟩
  · refine ⟨_, by rw [HC3.out], HOK.out, HOF.out, ?_⟩
    refine HV.out.keep fun A h => ?_
    refine Tr.setRow (h.keep fun g C _ hg => heap_setCell_other _ _ _ _ fun e => ?_) HY2.out (by decide) _
    subst e
    have := HX1.out
    simp only at this hg
    rw [this] at hg
    injection hg with hg
    injection hg with _ h2
    exact absurd h2 (by decide)
  · exact below_setRow (HB2.out.setCell (Nat.le_refl _) _) (by simp) _
end Go.Proofs.Ytogplhdcicajgaa
