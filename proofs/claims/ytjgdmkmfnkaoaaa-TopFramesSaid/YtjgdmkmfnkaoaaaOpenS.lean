/-
  segment.Open: what it opens of any bytes. Every slice of bytes that can be read, every two hosts. No condition.
-/
import Derived.Test.YtjgdmkmfnkaoaaaSameS
import Derived.Test.YtjgdmkmfnkaoaaaCopy2
import Derived.Deep.WholeRow
import Derived.Great.Walk
namespace Go.Proofs.Ytjgdmkmfnkaoaaa
open Go.RowKit

theorem ret_row {P : Program} {fn : Func} {R : Ending → World → Prop} {a : Act} {w : World} {p u : Tmp} {ty : TypeId} {g : Nat} {cs : Array Value} (h : fn.results = #[.cell p ty, .tmp u]) (hp : a.tmps.getD p undef = .pointer (some ⟨g, 0, none⟩))
    (hl : (loadVar ty ⟨g, 0, none⟩).run P w = .ok (.agg cs) w) (hdf : a.defers = []) (hR : R (.returned (.tuple #[.agg cs, a.tmps.getD u undef])) w) : bodyPost P fn R .ret a w := by
  refine bodyPost_ret (v := .tuple #[.agg cs, a.tmps.getD u undef]) ?_ hdf hR
  rw [results_cell_tmp h, hp]
  simp only [asAddr, Sem.run_pure, Result.andThen]
  rw [hl]
/-- a part of a slice -/
theorem o_run_slice_lh {P : Program} (t e : TypeId) (size : Nat) (hu : P.underlying t = some (.slice e)) (hi : (P.info? e).map (·.size) = some size) (A : Option Addr) (len cap l h : Nat) (h1 : l ≤ h) (h2 : h ≤ cap) (w : World) :
    (Instr.slice t (.slice A len cap) (some (.int .i64 (l : Int))) (some (.int .i64 (h : Int))) none).run P w = .ok (.slice (if cap = l then A else A.map (·.add (l * size))) (h - l) (cap - l)) w := by
  cases hie : P.info? e with
  | none => simp [hie] at hi
  | some ie =>
    simp only [hie, Option.map_some, Option.some.injEq] at hi
    simp [Instr.slice, run_underlying hu, Instr.sliceBounds, Instr.sliceBound, asIntOf, sizeOf, typeInfo, hie, hi, h1, h2]
theorem o_run_slice_l {P : Program} (t e : TypeId) (size : Nat) (hu : P.underlying t = some (.slice e)) (hi : (P.info? e).map (·.size) = some size) (A : Option Addr) (len cap l : Nat) (h1 : l ≤ len) (w : World) :
    (Instr.slice t (.slice A len cap) (some (.int .i64 (l : Int))) none none).run P w = .ok (.slice (if cap = l then A else A.map (·.add (l * size))) (len - l) (cap - l)) w := by
  cases hie : P.info? e with
  | none => simp [hie] at hi
  | some ie =>
    simp only [hie, Option.map_some, Option.some.injEq] at hi
    simp [Instr.slice, run_underlying hu, Instr.sliceBounds, Instr.sliceBound, asIntOf, sizeOf, typeInfo, hie, hi, h1]
theorem o_run_sliceE {P : Program} {ev : Operand → Value} {o : Oper} {w : World} (t : TypeId) (x : Operand) (l h : Option Operand) (ho : o.op = .slice t x l h none) {e : TypeId} (hu : P.underlying t = some (.slice e)) {A : Option Addr} {n c : Nat} (hx : ev x = .slice A n c) {v : Value} (hr : (Instr.slice t (.slice A n c) (l.map ev) (h.map ev) none).run P w = .ok v w) : (execOp ev o).run P w = .ok (.value v) w := by
  unfold execOp
  simp [ho, hx, Instr.sliceAt, run_underlying hu, hr]
theorem below_setRowO {B : Nat} {w w1 : World} (h : Below B w w1) {g : Nat} (hg : B ≤ g) (cs : Array Value) : Below B w (w1.setRow g cs) :=
  ⟨h.os, h.tape, h.output, by simp [World.setRow]; exact h.size, fun k hk => (setRow_other w1 g k cs (by omega)).trans (h.block k hk)⟩
theorem wpList_store_newS {P : Program} {ops : Array Oper} {rest : List Oper} {o : Oper} {a : Act} {Q : Exit → Act → World → Prop} (hgd : o.guard = none) (ty : TypeId) (x y : Operand) (ho : o.op = .store ty x y)
    (w0 : World) (zs cs : Array Value) (hx : a.eval x = .pointer (some ⟨w0.heap.size, 0, none⟩)) (hy : a.eval y = .agg cs) (hi : (P.info? ty).map (·.size) = some cs.size) (hs : zs.size = cs.size) (h1 : cs.all (·.oneCell') = true)
    (h : wpList P ops Q rest (a.put o.dst undef) (w0.alloc (.cells cs ty))) : wpList P ops Q (o :: rest) a (w0.alloc (.cells zs ty)) := by
  refine wpList_store_row hgd ty x y ho w0.heap.size cs hx hy ty zs (heap_alloc_new w0 _) hi hs h1 ?_
  rw [World.setRow_alloc_new]
  exact h
def SgO (w : World) (r : Sg × Int) (e : Ending) (w' : World) : Prop := ∃ cs, e = .returned (.tuple #[.agg cs, .int .i64 r.2]) ∧ SgC w' w.heap.size w'.heap.size cs r.1 ∧ Below w.heap.size w w'
set_option maxRecDepth 100000 in
set_option maxHeartbeats 4000000 in
theorem sopen_any (A : Option Addr) (l : List UInt8) (c lo hi : Nat) (s0 s1 s2 s3 d0 d1 d2 d3 : UInt8) (w : World) (hr : Rd w lo hi A (cells l)) (hhi : hi ≤ w.heap.size) (hlc : l.length ≤ c) (hcm : c ≤ maxLen) :
    Calls Try.prog 13 #[.slice A l.length c, .agg #[.int .u8 (s0.toNat : Int), .int .u8 (s1.toNat : Int), .int .u8 (s2.toNat : Int), .int .u8 (s3.toNat : Int)], .agg #[.int .u8 (d0.toNat : Int), .int .u8 (d1.toNat : Int), .int .u8 (d2.toNat : Int), .int .u8 (d3.toNat : Int)]] w (SgO w (sgOpen [s0, s1, s2, s3] [d0, d1, d2, d3] l)) := by
  obtain ⟨w2, hw2⟩ : ∃ w2, ((w.alloc (.cells #[.int .u8 (s0.toNat : Int), .int .u8 (s1.toNat : Int), .int .u8 (s2.toNat : Int), .int .u8 (s3.toNat : Int)] 28)).alloc (.cells #[.int .u8 (d0.toNat : Int), .int .u8 (d1.toNat : Int), .int .u8 (d2.toNat : Int), .int .u8 (d3.toNat : Int)] 28)).alloc (.cells #[.int .u16 0, .int .u16 0, .int .u32 0, .int .u32 0, .int .u8 0, .int .u16 0, .int .u16 0, .slice none 0 0] 26) = w2 := ⟨_, rfl⟩
  have HB2 : Hid (Below w.heap.size w w2) := by show Below _ _ _; rw [← hw2]; exact (((Below.refl _ _).alloc (Nat.le_refl _) _).alloc (by simp) _).alloc (by simp; omega) _
  have HGS : Hid (w2.heap[w.heap.size]? = some (.cells #[.int .u8 (s0.toNat : Int), .int .u8 (s1.toNat : Int), .int .u8 (s2.toNat : Int), .int .u8 (s3.toNat : Int)] 28 (0, 0))) := by show _ = _; rw [← hw2]; exact old_alloc (old_alloc (heap_alloc_new w _) _) _
  have HGD : Hid (w2.heap[w.heap.size + 1]? = some (.cells #[.int .u8 (d0.toNat : Int), .int .u8 (d1.toNat : Int), .int .u8 (d2.toNat : Int), .int .u8 (d3.toNat : Int)] 28 (0, 0))) := by
    have := heap_alloc_new (w.alloc (.cells #[.int .u8 (s0.toNat : Int), .int .u8 (s1.toNat : Int), .int .u8 (s2.toNat : Int), .int .u8 (s3.toNat : Int)] 28)) (.cells #[.int .u8 (d0.toNat : Int), .int .u8 (d1.toNat : Int), .int .u8 (d2.toNat : Int), .int .u8 (d3.toNat : Int)] 28)
    rw [World.size_alloc] at this
    show _ = _
    rw [← hw2]
    exact old_alloc this _
  have HGZ2 : Hid (w2.heap[w.heap.size + 2]? = some (.cells #[.int .u16 0, .int .u16 0, .int .u32 0, .int .u32 0, .int .u8 0, .int .u16 0, .int .u16 0, .slice none 0 0] 26 (0, 0))) := by
    have := heap_alloc_new ((w.alloc (.cells #[.int .u8 (s0.toNat : Int), .int .u8 (s1.toNat : Int), .int .u8 (s2.toNat : Int), .int .u8 (s3.toNat : Int)] 28)).alloc (.cells #[.int .u8 (d0.toNat : Int), .int .u8 (d1.toNat : Int), .int .u8 (d2.toNat : Int), .int .u8 (d3.toNat : Int)] 28)) (.cells #[.int .u16 0, .int .u16 0, .int .u32 0, .int .u32 0, .int .u8 0, .int .u16 0, .int .u16 0, .slice none 0 0] 26)
    rw [World.size_alloc, World.size_alloc] at this
    show _ = _
    rw [← hw2]
    exact this
  have HR := Lib.hid (hr.below (B := w.heap.size) HB2.out hhi)
  have HHI := Lib.hid hhi
  have HW2 : Hid (w.heap.size + 2 < w2.heap.size) := row_lt HGZ2.out
  obtain ⟨n, hn⟩ : ∃ n, l.length = n := ⟨_, rfl⟩
  have HN := Lib.hid hn
  rw [hn] at hlc ⊢
  unfold maxLen at hcm
  clear hr hhi
  go_enter Try.func13, Try.ntmps13
  go_upto_region 1 with (fail)
  try rw [hw2]
  clear hw2
  by_cases h20 : n < 20
  · have HE : Hid (sgOpen [s0, s1, s2, s3] [d0, d1, d2, d3] l = (Sg.zero, 6)) := by show _ = _; unfold sgOpen; rw [hn, if_pos h20]
    go_wp2_with (refine wpList_store_row rfl 26 _ _ rfl (w.heap.size + 2) #[.int .u16 0, .int .u16 0, .int .u32 0, .int .u32 0, .int .u8 0, .int .u16 0, .int .u16 0, .slice none 0 0] rfl rfl 26 #[.int .u16 0, .int .u16 0, .int .u32 0, .int .u32 0, .int .u8 0, .int .u16 0, .int .u16 0, .slice none 0 0] HGZ2.out (by kernel_rfl) rfl (by kernel_rfl) ?_)
    (try simp only [Exit.inBlock, Exit.then])
    refine ret_row (g := w.heap.size + 2) (cs := #[.int .u16 0, .int .u16 0, .int .u32 0, .int .u32 0, .int .u8 0, .int .u16 0, .int .u16 0, .slice none 0 0]) rfl rfl (load_sg (setRow_heap w2 _ _ _ _ _ HGZ2.out) rfl) rfl ?_
    rw [HE.out]
    exact ⟨_, rfl, zero_sg _ _ _, below_setRowO HB2.out (by omega) _⟩
  obtain ⟨x, hx⟩ : ∃ x, l[12]? = some x := ⟨_, List.getElem?_eq_getElem (by omega)⟩
  obtain ⟨f, hf⟩ : ∃ f, l[13]? = some f := ⟨_, List.getElem?_eq_getElem (by omega)⟩
  obtain ⟨ad, rfl, hz⟩ := HR.out.byte (k := 0) (by omega)
  have c12 := byte_at HR.out 12 (by omega) hx
  have g12 := getD_of hx
  have g13 := getD_of hf
  have hxl := x.toNat_lt
  have hfl := f.toNat_lt
  obtain ⟨hq, hh⟩ : ∃ h, 4 * (x.toNat / 16) = h := ⟨_, rfl⟩
  have hh2 : (4 : Int) * ((x.toNat : Int) / 16) = (hq : Int) := by omega
  have HHD : Hid (headN l = hq) := by show _ = _; unfold headN; rw [g12, hh]
  have HE0 : Hid (sgOpen [s0, s1, s2, s3] [d0, d1, d2, d3] l = (if hq < 20 then (Sg.zero, 7) else if n < hq then (Sg.zero, 6) else if 1000 < n then (Sg.zero, 4) else if sumL (pseudoT [s0, s1, s2, s3] [d0, d1, d2, d3] n ++ l) ≠ 65535 then (Sg.zero, 8) else match opts 0 ((l.take hq).drop 20) with | none => (Sg.zero, 7) | some m => (sgOf l m, 0) : Sg × Int)) := by
    show _ = _
    unfold sgOpen
    rw [hn, if_neg h20, HHD.out]
    rfl
  generalize x.toNat = xn at *
  clear hz hx hh hn g12
  by_cases h7 : hq < 20
  · have HE := Lib.hid (HE0.out.trans (if_pos h7))
    go_wp2_with (refine wpList_store_row rfl 26 _ _ rfl (w.heap.size + 2) #[.int .u16 0, .int .u16 0, .int .u32 0, .int .u32 0, .int .u8 0, .int .u16 0, .int .u16 0, .slice none 0 0] rfl rfl 26 #[.int .u16 0, .int .u16 0, .int .u32 0, .int .u32 0, .int .u8 0, .int .u16 0, .int .u16 0, .slice none 0 0] HGZ2.out (by kernel_rfl) rfl (by kernel_rfl) ?_)
    (try simp only [Exit.inBlock, Exit.then])
    refine ret_row (g := w.heap.size + 2) (cs := #[.int .u16 0, .int .u16 0, .int .u32 0, .int .u32 0, .int .u8 0, .int .u16 0, .int .u16 0, .slice none 0 0]) rfl rfl (load_sg (setRow_heap w2 _ _ _ _ _ HGZ2.out) rfl) rfl ?_
    rw [HE.out]
    exact ⟨_, rfl, zero_sg _ _ _, below_setRowO HB2.out (by omega) _⟩
  have HE1 := Lib.hid (HE0.out.trans (if_neg h7))
  by_cases h6 : n < hq
  · have HE := Lib.hid (HE1.out.trans (if_pos h6))
    go_wp2_with (refine wpList_store_row rfl 26 _ _ rfl (w.heap.size + 2) #[.int .u16 0, .int .u16 0, .int .u32 0, .int .u32 0, .int .u8 0, .int .u16 0, .int .u16 0, .slice none 0 0] rfl rfl 26 #[.int .u16 0, .int .u16 0, .int .u32 0, .int .u32 0, .int .u8 0, .int .u16 0, .int .u16 0, .slice none 0 0] HGZ2.out (by kernel_rfl) rfl (by kernel_rfl) ?_)
    (try simp only [Exit.inBlock, Exit.then])
    refine ret_row (g := w.heap.size + 2) (cs := #[.int .u16 0, .int .u16 0, .int .u32 0, .int .u32 0, .int .u8 0, .int .u16 0, .int .u16 0, .slice none 0 0]) rfl rfl (load_sg (setRow_heap w2 _ _ _ _ _ HGZ2.out) rfl) rfl ?_
    rw [HE.out]
    exact ⟨_, rfl, zero_sg _ _ _, below_setRowO HB2.out (by omega) _⟩
  have HE2 := Lib.hid (HE1.out.trans (if_neg h6))
  by_cases h4 : 1000 < n
  · have HE := Lib.hid (HE2.out.trans (if_pos h4))
    go_wp2_with (refine wpList_store_row rfl 26 _ _ rfl (w.heap.size + 2) #[.int .u16 0, .int .u16 0, .int .u32 0, .int .u32 0, .int .u8 0, .int .u16 0, .int .u16 0, .slice none 0 0] rfl rfl 26 #[.int .u16 0, .int .u16 0, .int .u32 0, .int .u32 0, .int .u8 0, .int .u16 0, .int .u16 0, .slice none 0 0] HGZ2.out (by kernel_rfl) rfl (by kernel_rfl) ?_)
    (try simp only [Exit.inBlock, Exit.then])
    refine ret_row (g := w.heap.size + 2) (cs := #[.int .u16 0, .int .u16 0, .int .u32 0, .int .u32 0, .int .u8 0, .int .u16 0, .int .u16 0, .slice none 0 0]) rfl rfl (load_sg (setRow_heap w2 _ _ _ _ _ HGZ2.out) rfl) rfl ?_
    rw [HE.out]
    exact ⟨_, rfl, zero_sg _ _ _, below_setRowO HB2.out (by omega) _⟩
  have HE3 := Lib.hid (HE2.out.trans (if_neg h4))
  clear HE0 HE1 HE2
  --STOP1
  go_wp2_with (first | refine wpList_load_row rfl 28 _ rfl w.heap.size rfl 28 #[.int .u8 (s0.toNat : Int), .int .u8 (s1.toNat : Int), .int .u8 (s2.toNat : Int), .int .u8 (s3.toNat : Int)] (0, 0) _ HGS.out Try.underlying28 rfl (by kernel_rfl) ?_ | refine wpList_load_row rfl 28 _ rfl (w.heap.size + 1) rfl 28 #[.int .u8 (d0.toNat : Int), .int .u8 (d1.toNat : Int), .int .u8 (d2.toNat : Int), .int .u8 (d3.toNat : Int)] (0, 0) _ HGD.out Try.underlying28 rfl (by kernel_rfl) ?_)
  refine (spseudo_any s0 s1 s2 s3 d0 d1 d2 d3 (some ad) n c w2).mono ?_
  rintro e w3 ⟨v3, rfl, ⟨A3, c3, rfl, hr3, _⟩, hb3⟩
  obtain ⟨ps, hps⟩ : ∃ ps, pseudoT [s0, s1, s2, s3] [d0, d1, d2, d3] n = ps := ⟨_, rfl⟩
  rw [hps] at hr3 HE3 ⊢
  have hpl : ps.length = 12 := by rw [← hps]; rfl
  rw [hpl]
  have HB3 := Lib.hid (HB2.out.trans (hb3.mono HB2.out.size))
  have HGZ3 := Lib.hid ((hb3.block _ (row_lt HGZ2.out)).trans HGZ2.out)
  have HR3 := Lib.hid (HR.out.below hb3 (by have := HHI.out; have := HW2.out; omega))
  have HW3 : Hid (w.heap.size + 2 < w3.heap.size) := row_lt HGZ3.out
  have hrt := right_any ⟨w3.heap.size, 0, none⟩ [.slice A3 12 c3, .slice (some ad) n c] [ps, l] 2 w3.heap.size (w3.heap.size + 1) 0 w3.heap.size 2 (ps ++ l) (w3.alloc (.cells #[.slice A3 12 c3, .slice (some ad) n c] 24)) (rd_new w3 [.slice A3 12 c3, .slice (some ad) n c] 24 (0, 0)) (pts_cons ((hr3.wide (Nat.zero_le _) (Nat.le_refl _)).alloc (Nat.le_refl _) _) hpl (pts_cons (((HR3.out.wide (Nat.zero_le _) (by have := HHI.out; have := HW3.out; omega)) : Rd w3 0 w3.heap.size (some ad) (cells l)).alloc (Nat.le_refl _) _) HN.out pts_nil)) rfl (by decide) (by intro p hp; simp at hp; unfold maxLen; rcases hp with rfl | rfl; (· omega); (· have := HN.out; omega)) (by simp)
  obtain ⟨w4, hw4⟩ : ∃ w4, w3.alloc (.cells #[.slice A3 12 c3, .slice (some ad) n c] 24) = w4 := ⟨_, rfl⟩
  rw [hw4] at hrt
  have HRT := Lib.hid hrt
  have HB4 : Hid (Below w.heap.size w w4) := by rw [← hw4]; exact HB3.out.alloc HB3.out.size _
  have HGZ4 : Hid (w4.heap[w.heap.size + 2]? = some (.cells #[.int .u16 0, .int .u16 0, .int .u32 0, .int .u32 0, .int .u8 0, .int .u16 0, .int .u16 0, .slice none 0 0] 26 (0, 0))) := by rw [← hw4]; exact old_alloc HGZ3.out _
  have HR4 : Hid (Rd w4 lo hi (some ad) (cells l)) := by rw [← hw4]; exact HR3.out.alloc (by have := HHI.out; have := HW3.out; omega) _
  have HW4 : Hid (w.heap.size + 2 < w4.heap.size) := row_lt HGZ4.out
  clear hr3 hb3 hps hrt
  --STOP2
  go_wp2_with fail
  refine HRT.out.mono ?_
  clear hw4
  rintro e w5 ⟨rfl, rfl⟩
  by_cases h8 : sumL (ps ++ l) = 65535
  rotate_left
  · have HE := Lib.hid (HE3.out.trans (if_pos h8))
    have q1 : (((sumL (ps ++ l) : Nat) : Int) == 65535) = false := beqF (by omega)
    go_wp2_with (refine wpList_store_row rfl 26 _ _ rfl (w.heap.size + 2) #[.int .u16 0, .int .u16 0, .int .u32 0, .int .u32 0, .int .u8 0, .int .u16 0, .int .u16 0, .slice none 0 0] rfl rfl 26 #[.int .u16 0, .int .u16 0, .int .u32 0, .int .u32 0, .int .u8 0, .int .u16 0, .int .u16 0, .slice none 0 0] HGZ4.out (by kernel_rfl) rfl (by kernel_rfl) ?_)
    (try simp only [Exit.inBlock, Exit.then])
    refine ret_row (g := w.heap.size + 2) (cs := #[.int .u16 0, .int .u16 0, .int .u32 0, .int .u32 0, .int .u8 0, .int .u16 0, .int .u16 0, .slice none 0 0]) rfl rfl (load_sg (setRow_heap w4 _ _ _ _ _ HGZ4.out) rfl) rfl ?_
    rw [HE.out]
    exact ⟨_, rfl, zero_sg _ _ _, below_setRowO HB4.out (by omega) _⟩
  have HE4 := Lib.hid (HE3.out.trans (if_neg (by simp [h8])))
  have q1 : (((sumL (ps ++ l) : Nat) : Int) == 65535) = true := beqT (by omega)
  clear h8 HE3 HRT c12
  by_cases hc20 : c = 20
  · obtain rfl : hq = 20 := by omega
    obtain rfl : n = 20 := by omega
    subst hc20
    have hpart : Rd w4 lo hi (some ad) (cells ((l.take 20).drop 20)) := by
      have h1 := HR4.out.take 20
      rw [cells_take] at h1
      rw [List.drop_eq_nil_of_le (by rw [List.length_take]; omega)]
      exact Rd.nil
    have hpart2 : ∀ w' : World, Rd w' lo hi (some ad) (cells l) → Rd w' lo hi (some ad) (cells (l.drop 20)) := fun w' h1 => by
      rw [List.drop_eq_nil_of_le (by rw [HN.out]; omega)]
      exact Rd.nil
    have hol : ((l.take 20).drop 20).length = 0 := by rw [List.length_drop, List.length_take, HN.out]; omega
    have hdl : (l.drop 20).length = 0 := by rw [List.length_drop, HN.out]; try omega
    have hro := readopts_any (some ad) _ 0 lo hi w4 hpart (by have := HHI.out; have := HW4.out; omega) (by rw [hol]; try omega) (by unfold maxLen; omega)
    rw [hol] at hro
    have HRO := Lib.hid hro
    obtain ⟨data, hdata⟩ : ∃ data, l.drop 20 = data := ⟨_, rfl⟩
    rw [hdata] at hpart2 hdl
    have HP2 := Lib.hid hpart2
    have HDL := Lib.hid hdl
    have HDT := Lib.hid hdata
    obtain ⟨ol, hol2⟩ : ∃ ol, (l.take 20).drop 20 = ol := ⟨_, rfl⟩
    rw [hol2] at HRO HE4
    clear hpart hpart2 hol hdl hro hol2 hdata
    --STOP3
    go_wp2_with fail
    refine HRO.out.mono ?_
    rintro e w5 ⟨rfl, hb5⟩
    have HB5 := Lib.hid (HB4.out.trans (hb5.mono HB4.out.size))
    have HGZ5 := Lib.hid ((hb5.block _ (row_lt HGZ4.out)).trans HGZ4.out)
    have HR5 := Lib.hid (HR4.out.below hb5 (by have := HHI.out; have := HW4.out; omega))
    have HW5 : Hid (w.heap.size + 2 < w5.heap.size) := row_lt HGZ5.out
    have hm16 : ∀ m, opts 0 ol = some m → m < 65536 := fun m hm => opts_lt _ _ _ _ (Nat.le_refl _) (by omega) hm
    clear hb5 q1
    cases hop : opts 0 ol with
    | none =>
      rw [hop] at HE4
      have HE := HE4
      have HO := Lib.hid (readOpts_none hop)
      rw [HO.out]
      clear hop hm16
      go_wp2_with (refine wpList_store_row rfl 26 _ _ rfl (w.heap.size + 2) #[.int .u16 0, .int .u16 0, .int .u32 0, .int .u32 0, .int .u8 0, .int .u16 0, .int .u16 0, .slice none 0 0] rfl rfl 26 #[.int .u16 0, .int .u16 0, .int .u32 0, .int .u32 0, .int .u8 0, .int .u16 0, .int .u16 0, .slice none 0 0] HGZ5.out (by kernel_rfl) rfl (by kernel_rfl) ?_)
      (try simp only [Exit.inBlock, Exit.then])
      refine ret_row (g := w.heap.size + 2) (cs := #[.int .u16 0, .int .u16 0, .int .u32 0, .int .u32 0, .int .u8 0, .int .u16 0, .int .u16 0, .slice none 0 0]) rfl rfl (load_sg (setRow_heap w5 _ _ _ _ _ HGZ5.out) rfl) rfl ?_
      rw [HE.out]
      exact ⟨_, rfl, zero_sg _ _ _, below_setRowO HB5.out (by omega) _⟩
    | some m =>
      have hm2 := hm16 m hop
      rw [hop] at HE4
      have HE5 : Hid (sgOpen [s0, s1, s2, s3] [d0, d1, d2, d3] l = (sgOf l m, 0)) := HE4.out
      have HO := Lib.hid (readOpts_some hop)
      rw [HO.out]
      clear hop hm16
      have hfd := fields_any (some ad) l 20 lo hi w5 HR5.out (by have := HHI.out; have := HW5.out; omega) (by rw [HN.out]; omega) (by rw [HN.out]; unfold maxLen; omega)
      have HSG : Hid (sgOf l m = ⟨numAt l 0, numAt l 2, num4 l 4, num4 l 8, UInt8.ofNat (f.toNat % 32), numAt l 14, if f.toNat / 2 % 2 = 1 then m else 0, data⟩) := by show _ = _; unfold sgOf; rw [g13, HHD.out, HDT.out]
      have HF8 : Hid ((UInt8.ofNat (f.toNat % 32)).toNat = f.toNat % 32) := small_flags (by omega)
      have b0 := numAt_lt l 0
      have b2 := numAt_lt l 2
      have b4 := num4_lt l 4
      have b8 := num4_lt l 8
      have b14 := numAt_lt l 14
      rw [HN.out, g13] at hfd
      obtain ⟨p0, e0⟩ : ∃ p, numAt l 0 = p := ⟨_, rfl⟩
      obtain ⟨p2, e2⟩ : ∃ p, numAt l 2 = p := ⟨_, rfl⟩
      obtain ⟨p4, e4⟩ : ∃ p, num4 l 4 = p := ⟨_, rfl⟩
      obtain ⟨p8, e8⟩ : ∃ p, num4 l 8 = p := ⟨_, rfl⟩
      obtain ⟨p14, e14⟩ : ∃ p, numAt l 14 = p := ⟨_, rfl⟩
      obtain ⟨fl, efl⟩ : ∃ p, UInt8.ofNat (f.toNat % 32) = p := ⟨_, rfl⟩
      obtain ⟨fn, efn⟩ : ∃ p, f.toNat = p := ⟨_, rfl⟩
      rw [e0, e2, e4, e8, e14] at hfd HSG
      rw [efl] at HSG HF8
      rw [efn] at hfd HSG HF8 hfl
      rw [e0] at b0
      rw [e2] at b2
      rw [e4] at b4
      rw [e8] at b8
      rw [e14] at b14
      obtain ⟨p13, hp13⟩ : ∃ p, fn % 32 = p := ⟨_, rfl⟩
      have ha2 := and_2 p13 (by omega)
      have hp2 : p13 / 2 % 2 = fn / 2 % 2 := by rw [← hp13]; omega
      rw [hp2] at ha2
      rw [hp13] at hfd HF8
      have HFD := Lib.hid hfd
      have HOKX : Hid (p0 < 65536 ∧ p2 < 65536 ∧ p4 < 4294967296 ∧ p8 < 4294967296 ∧ p14 < 65536) := ⟨b0, b2, b4, b8, b14⟩
      have hbit : fn / 2 % 2 = 0 ∨ fn / 2 % 2 = 1 := by omega
      clear hfd b0 b2 b4 b8 b14 hp13 hp2 g13 hf e0 e2 e4 e8 e14 efl efn
      --STOP6
      go_wp2_with fail
      refine HFD.out.mono ?_
      rintro e w6 ⟨rfl, hb6⟩
      have HB6 := Lib.hid (HB5.out.trans (hb6.mono HB5.out.size))
      have HGZ6 := Lib.hid ((hb6.block _ (row_lt HGZ5.out)).trans HGZ5.out)
      have HR6 := Lib.hid (HR5.out.below hb6 (by have := HHI.out; have := HW5.out; omega))
      have HW6 : Hid (w.heap.size + 2 < w6.heap.size) := row_lt HGZ6.out
      clear hb6
      have HB7 := Lib.hid (HB6.out.alloc HB6.out.size (.cells #[.int .u16 (p0 : Int), .int .u16 (p2 : Int), .int .u32 (p4 : Int), .int .u32 (p8 : Int), .int .u8 (p13 : Int), .int .u16 (p14 : Int), .int .u16 0, .slice none 0 0] 26))
      have HGZ7 := Lib.hid (old_alloc HGZ6.out (.cells #[.int .u16 (p0 : Int), .int .u16 (p2 : Int), .int .u32 (p4 : Int), .int .u32 (p8 : Int), .int .u8 (p13 : Int), .int .u16 (p14 : Int), .int .u16 0, .slice none 0 0] 26))
      have HR7 := Lib.hid (HR6.out.alloc (by have := HHI.out; have := HW6.out; omega) (.cells #[.int .u16 (p0 : Int), .int .u16 (p2 : Int), .int .u32 (p4 : Int), .int .u32 (p8 : Int), .int .u8 (p13 : Int), .int .u16 (p14 : Int), .int .u16 0, .slice none 0 0] 26))
      have hgy := heap_alloc_new w6 (.cells #[.int .u16 (p0 : Int), .int .u16 (p2 : Int), .int .u32 (p4 : Int), .int .u32 (p8 : Int), .int .u8 (p13 : Int), .int .u16 (p14 : Int), .int .u16 0, .slice none 0 0] 26)
      have HGY7 := Lib.hid hgy
      have k4 := cell_of_row _ _ 4 _ _ _ hgy
      have k6 := cell_of_row _ _ 6 _ _ _ hgy
      have k7 := cell_of_row _ _ 7 _ _ _ hgy
      clear hgy
      --STOP7
      go_upto_region 16 with (refine wpList_store_newS rfl 26 _ _ rfl w6 #[.int .u16 0, .int .u16 0, .int .u32 0, .int .u32 0, .int .u8 0, .int .u16 0, .int .u16 0, .slice none 0 0] #[.int .u16 (p0 : Int), .int .u16 (p2 : Int), .int .u32 (p4 : Int), .int .u32 (p8 : Int), .int .u8 (p13 : Int), .int .u16 (p14 : Int), .int .u16 0, .slice none 0 0] rfl rfl (by kernel_rfl) rfl (by kernel_rfl) ?_)
      generalize w6.alloc (.cells #[.int .u16 (p0 : Int), .int .u16 (p2 : Int), .int .u32 (p4 : Int), .int .u32 (p8 : Int), .int .u8 (p13 : Int), .int .u16 (p14 : Int), .int .u16 0, .slice none 0 0] 26) = w7 at HB7 HGZ7 HR7 HGY7 k4 k6 k7 ⊢
      --STOP8
      have HGW : Hid (w.heap.size + 2 < w6.heap.size) := HW6.out
      have hb7 : w6.heap.size < w7.heap.size := row_lt HGY7.out
      have hf6 := frozen_of_row _ _ 6 _ _ HGY7.out
      rcases hbit with hb0 | hb1
      · rw [hb0] at ha2 HSG
        rw [if_neg (by decide)] at HSG
        clear hb0
        simp only [Act.put]
        have HBv : Hid (Below w.heap.size w w7) := HB7.out
        have HGZv : Hid (w7.heap[w.heap.size + 2]? = some (.cells #[.int .u16 0, .int .u16 0, .int .u32 0, .int .u32 0, .int .u8 0, .int .u16 0, .int .u16 0, .slice none 0 0] 26 (0, 0))) := HGZ7.out
        have HRv : Hid (Rd w7 lo hi (some ad) (cells l)) := HR7.out
        have HGYv : Hid (w7.heap[w6.heap.size]? = some (.cells #[.int .u16 (p0 : Int), .int .u16 (p2 : Int), .int .u32 (p4 : Int), .int .u32 (p8 : Int), .int .u8 (p13 : Int), .int .u16 (p14 : Int), .int .u16 0, .slice none 0 0] 26 (0, 0))) := HGY7.out
        have HSv : Hid (w6.heap.size < w7.heap.size) := row_lt HGYv.out
        go_wp2_with fail
        have hcl := clone_len (some ad) data 0 0 lo hi w7 (HP2.out w7 HRv.out) (by rw [HDL.out]; omega) HDL.out
        refine hcl.mono ?_
        clear hcl
        rintro e w8 ⟨A6, c6, rfl, ho8, hb8⟩
        have HB8 : Hid (Below w.heap.size w (w8.setCell ⟨w6.heap.size, 7, none⟩ (.slice A6 0 c6))) := (HBv.out.trans (hb8.mono HBv.out.size)).setCell (by have := HGW.out; simp only; omega) _
        have hz8 := (hb8.block _ (row_lt HGZv.out)).trans HGZv.out
        have hy8 := (hb8.block _ HSv.out).trans HGYv.out
        have HGZ8 : Hid ((w8.setCell ⟨w6.heap.size, 7, none⟩ (.slice A6 0 c6)).heap[w.heap.size + 2]? = some (.cells #[.int .u16 0, .int .u16 0, .int .u32 0, .int .u32 0, .int .u8 0, .int .u16 0, .int .u16 0, .slice none 0 0] 26 (0, 0))) := (heap_setCell_other _ _ _ _ (by have := HGW.out; simp only; omega)).trans hz8
        have HGY8 : Hid ((w8.setCell ⟨w6.heap.size, 7, none⟩ (.slice A6 0 c6)).heap[w6.heap.size]? = some (.cells #[.int .u16 (p0 : Int), .int .u16 (p2 : Int), .int .u32 (p4 : Int), .int .u32 (p8 : Int), .int .u8 (p13 : Int), .int .u16 (p14 : Int), .int .u16 0, .slice A6 0 c6] 26 (0, 0))) := heap_setCell_same w8 w6.heap.size 7 #[.int .u16 (p0 : Int), .int .u16 (p2 : Int), .int .u32 (p4 : Int), .int .u32 (p8 : Int), .int .u8 (p13 : Int), .int .u16 (p14 : Int), .int .u16 0, .slice none 0 0] 26 (.slice A6 0 c6) hy8
        have k7v := cell_of_row _ _ 7 _ _ _ hy8
        have hf7 := frozen_of_row _ _ 7 _ _ hy8
        have hfr := fresh_own ho8 HDL.out
        have HFR : Hid (Fresh w7.heap.size data (.slice A6 0 c6) (w8.setCell ⟨w6.heap.size, 7, none⟩ (.slice A6 0 c6))) := by
          obtain ⟨A', c', q1, q2, q3⟩ := hfr
          simp only [Value.slice.injEq] at q1
          obtain ⟨rfl, q4, rfl⟩ := q1
          exact ⟨A6, c6, by rw [HDL.out], (q2.setCell (.inl HSv.out) _).wide (Nat.le_refl _) (by simp), q3⟩
        clear hb8 hz8 hy8 ho8 hfr k4 k6 k7 hf6
        go_wp2_with (first | refine wpList_load_row rfl 26 _ rfl w6.heap.size rfl 26 #[.int .u16 (p0 : Int), .int .u16 (p2 : Int), .int .u32 (p4 : Int), .int .u32 (p8 : Int), .int .u8 (p13 : Int), .int .u16 (p14 : Int), .int .u16 0, .slice A6 0 c6] (0, 0) _ HGY8.out Try.underlying26 rfl (by kernel_rfl) ?_ | refine wpList_store_row rfl 26 _ _ rfl (w.heap.size + 2) #[.int .u16 (p0 : Int), .int .u16 (p2 : Int), .int .u32 (p4 : Int), .int .u32 (p8 : Int), .int .u8 (p13 : Int), .int .u16 (p14 : Int), .int .u16 0, .slice A6 0 c6] rfl rfl 26 #[.int .u16 0, .int .u16 0, .int .u32 0, .int .u32 0, .int .u8 0, .int .u16 0, .int .u16 0, .slice none 0 0] HGZ8.out (by kernel_rfl) rfl (by kernel_rfl) ?_)
        (try simp only [Exit.inBlock, Exit.then])
        refine ret_row (g := w.heap.size + 2) (cs := #[.int .u16 (p0 : Int), .int .u16 (p2 : Int), .int .u32 (p4 : Int), .int .u32 (p8 : Int), .int .u8 (p13 : Int), .int .u16 (p14 : Int), .int .u16 0, .slice A6 0 c6]) rfl rfl (load_sg (setRow_heap (w8.setCell ⟨w6.heap.size, 7, none⟩ (.slice A6 0 c6)) _ _ _ _ _ HGZ8.out) rfl) rfl ?_
        rw [HE5.out, HSG.out]
        obtain ⟨A', c', q1, q2, q3, q4, q5⟩ := HFR.out
        simp only [Value.slice.injEq] at q1
        obtain ⟨rfl, -, rfl⟩ := q1
        refine ⟨_, rfl, ⟨A6, c6, ?_, ⟨HOKX.out.1, HOKX.out.2.1, HOKX.out.2.2.1, HOKX.out.2.2.2.1, HOKX.out.2.2.2.2, (by show 0 < 65536; decide)⟩, (q2.keep fun p hp _ => World.cell?_of_block (setRow_other _ _ _ _ (by have h1 := HGW.out; have h2 := HSv.out; omega))).wide (by have h1 := HGW.out; have h2 := HSv.out; omega) (by simp), q4, q5, q3⟩, below_setRowO HB8.out (by omega) _⟩
        show (#[.int .u16 (p0 : Int), .int .u16 (p2 : Int), .int .u32 (p4 : Int), .int .u32 (p8 : Int), .int .u8 (p13 : Int), .int .u16 (p14 : Int), .int .u16 0, .slice A6 0 c6] : Array Value) = #[.int .u16 (p0 : Int), .int .u16 (p2 : Int), .int .u32 (p4 : Int), .int .u32 (p8 : Int), .int .u8 (fl.toNat : Int), .int .u16 (p14 : Int), .int .u16 ((0 : Nat) : Int), .slice A6 data.length c6]
        rw [HF8.out, HDL.out]
        rfl
      · rw [hb1] at ha2 HSG
        rw [if_pos rfl] at HSG
        clear hb1
        simp only [Act.put]
        have HBv : Hid (Below w.heap.size w (w7.setCell ⟨w6.heap.size, 6, none⟩ (.int .u16 (m : Int)))) := HB7.out.setCell (by have := HGW.out; simp only; omega) _
        have HGZv : Hid ((w7.setCell ⟨w6.heap.size, 6, none⟩ (.int .u16 (m : Int))).heap[w.heap.size + 2]? = some (.cells #[.int .u16 0, .int .u16 0, .int .u32 0, .int .u32 0, .int .u8 0, .int .u16 0, .int .u16 0, .slice none 0 0] 26 (0, 0))) := (heap_setCell_other _ _ _ _ (by have := HGW.out; simp only; omega)).trans HGZ7.out
        have HRv : Hid (Rd (w7.setCell ⟨w6.heap.size, 6, none⟩ (.int .u16 (m : Int))) lo hi (some ad) (cells l)) := HR7.out.setCell (.inr (by have h1 := HHI.out; have h2 := HGW.out; simp only; omega)) _
        have HGYv : Hid ((w7.setCell ⟨w6.heap.size, 6, none⟩ (.int .u16 (m : Int))).heap[w6.heap.size]? = some (.cells #[.int .u16 (p0 : Int), .int .u16 (p2 : Int), .int .u32 (p4 : Int), .int .u32 (p8 : Int), .int .u8 (p13 : Int), .int .u16 (p14 : Int), .int .u16 (m : Int), .slice none 0 0] 26 (0, 0))) := heap_setCell_same w7 w6.heap.size 6 #[.int .u16 (p0 : Int), .int .u16 (p2 : Int), .int .u32 (p4 : Int), .int .u32 (p8 : Int), .int .u8 (p13 : Int), .int .u16 (p14 : Int), .int .u16 0, .slice none 0 0] 26 (.int .u16 (m : Int)) HGY7.out
        have HSv : Hid (w6.heap.size < (w7.setCell ⟨w6.heap.size, 6, none⟩ (.int .u16 (m : Int))).heap.size) := row_lt HGYv.out
        go_wp2_with fail
        generalize (w7.setCell ⟨w6.heap.size, 6, none⟩ (.int .u16 (m : Int))) = wv at HBv HGZv HRv HGYv HSv ⊢
        have hcl := clone_len (some ad) data 0 0 lo hi wv (HP2.out wv HRv.out) (by rw [HDL.out]; omega) HDL.out
        refine hcl.mono ?_
        clear hcl
        rintro e w8 ⟨A6, c6, rfl, ho8, hb8⟩
        have HB8 : Hid (Below w.heap.size w (w8.setCell ⟨w6.heap.size, 7, none⟩ (.slice A6 0 c6))) := (HBv.out.trans (hb8.mono HBv.out.size)).setCell (by have := HGW.out; simp only; omega) _
        have hz8 := (hb8.block _ (row_lt HGZv.out)).trans HGZv.out
        have hy8 := (hb8.block _ HSv.out).trans HGYv.out
        have HGZ8 : Hid ((w8.setCell ⟨w6.heap.size, 7, none⟩ (.slice A6 0 c6)).heap[w.heap.size + 2]? = some (.cells #[.int .u16 0, .int .u16 0, .int .u32 0, .int .u32 0, .int .u8 0, .int .u16 0, .int .u16 0, .slice none 0 0] 26 (0, 0))) := (heap_setCell_other _ _ _ _ (by have := HGW.out; simp only; omega)).trans hz8
        have HGY8 : Hid ((w8.setCell ⟨w6.heap.size, 7, none⟩ (.slice A6 0 c6)).heap[w6.heap.size]? = some (.cells #[.int .u16 (p0 : Int), .int .u16 (p2 : Int), .int .u32 (p4 : Int), .int .u32 (p8 : Int), .int .u8 (p13 : Int), .int .u16 (p14 : Int), .int .u16 (m : Int), .slice A6 0 c6] 26 (0, 0))) := heap_setCell_same w8 w6.heap.size 7 #[.int .u16 (p0 : Int), .int .u16 (p2 : Int), .int .u32 (p4 : Int), .int .u32 (p8 : Int), .int .u8 (p13 : Int), .int .u16 (p14 : Int), .int .u16 (m : Int), .slice none 0 0] 26 (.slice A6 0 c6) hy8
        have k7v := cell_of_row _ _ 7 _ _ _ hy8
        have hf7 := frozen_of_row _ _ 7 _ _ hy8
        have hfr := fresh_own ho8 HDL.out
        have HFR : Hid (Fresh wv.heap.size data (.slice A6 0 c6) (w8.setCell ⟨w6.heap.size, 7, none⟩ (.slice A6 0 c6))) := by
          obtain ⟨A', c', q1, q2, q3⟩ := hfr
          simp only [Value.slice.injEq] at q1
          obtain ⟨rfl, q4, rfl⟩ := q1
          exact ⟨A6, c6, by rw [HDL.out], (q2.setCell (.inl HSv.out) _).wide (Nat.le_refl _) (by simp), q3⟩
        clear hb8 hz8 hy8 ho8 hfr k4 k6 k7 hf6
        go_wp2_with (first | refine wpList_load_row rfl 26 _ rfl w6.heap.size rfl 26 #[.int .u16 (p0 : Int), .int .u16 (p2 : Int), .int .u32 (p4 : Int), .int .u32 (p8 : Int), .int .u8 (p13 : Int), .int .u16 (p14 : Int), .int .u16 (m : Int), .slice A6 0 c6] (0, 0) _ HGY8.out Try.underlying26 rfl (by kernel_rfl) ?_ | refine wpList_store_row rfl 26 _ _ rfl (w.heap.size + 2) #[.int .u16 (p0 : Int), .int .u16 (p2 : Int), .int .u32 (p4 : Int), .int .u32 (p8 : Int), .int .u8 (p13 : Int), .int .u16 (p14 : Int), .int .u16 (m : Int), .slice A6 0 c6] rfl rfl 26 #[.int .u16 0, .int .u16 0, .int .u32 0, .int .u32 0, .int .u8 0, .int .u16 0, .int .u16 0, .slice none 0 0] HGZ8.out (by kernel_rfl) rfl (by kernel_rfl) ?_)
        (try simp only [Exit.inBlock, Exit.then])
        refine ret_row (g := w.heap.size + 2) (cs := #[.int .u16 (p0 : Int), .int .u16 (p2 : Int), .int .u32 (p4 : Int), .int .u32 (p8 : Int), .int .u8 (p13 : Int), .int .u16 (p14 : Int), .int .u16 (m : Int), .slice A6 0 c6]) rfl rfl (load_sg (setRow_heap (w8.setCell ⟨w6.heap.size, 7, none⟩ (.slice A6 0 c6)) _ _ _ _ _ HGZ8.out) rfl) rfl ?_
        rw [HE5.out, HSG.out]
        obtain ⟨A', c', q1, q2, q3, q4, q5⟩ := HFR.out
        simp only [Value.slice.injEq] at q1
        obtain ⟨rfl, -, rfl⟩ := q1
        refine ⟨_, rfl, ⟨A6, c6, ?_, ⟨HOKX.out.1, HOKX.out.2.1, HOKX.out.2.2.1, HOKX.out.2.2.2.1, HOKX.out.2.2.2.2, hm2⟩, (q2.keep fun p hp _ => World.cell?_of_block (setRow_other _ _ _ _ (by have h1 := HGW.out; have h2 := HSv.out; omega))).wide (by have h1 := HGW.out; have h2 := HSv.out; omega) (by simp), q4, q5, q3⟩, below_setRowO HB8.out (by omega) _⟩
        show (#[.int .u16 (p0 : Int), .int .u16 (p2 : Int), .int .u32 (p4 : Int), .int .u32 (p8 : Int), .int .u8 (p13 : Int), .int .u16 (p14 : Int), .int .u16 (m : Int), .slice A6 0 c6] : Array Value) = #[.int .u16 (p0 : Int), .int .u16 (p2 : Int), .int .u32 (p4 : Int), .int .u32 (p8 : Int), .int .u8 (fl.toNat : Int), .int .u16 (p14 : Int), .int .u16 (m : Int), .slice A6 data.length c6]
        rw [HF8.out, HDL.out]
  by_cases hcq : c = hq
  · obtain rfl : hq = n := by omega
    obtain rfl := hcq
    have hpart : Rd w4 lo hi (some ⟨ad.block, ad.off + 20, none⟩) (cells ((l.take c).drop 20)) := by
      have h1 := HR4.out.take c
      rw [cells_take] at h1
      have h2 := rd_from (k := 20) (c := c) h1 (by rw [List.length_take, HN.out]; omega)
      rw [if_neg hc20] at h2
      exact h2
    have hpart2 : ∀ w' : World, Rd w' lo hi (some ad) (cells l) → Rd w' lo hi (some ad) (cells (l.drop c)) := fun w' h1 => by
      rw [List.drop_eq_nil_of_le (by rw [HN.out]; omega)]
      exact Rd.nil
    have hol : ((l.take c).drop 20).length = (c - 20) := by rw [List.length_drop, List.length_take, HN.out]; omega
    have hdl : (l.drop c).length = 0 := by rw [List.length_drop, HN.out]; try omega
    have hro := readopts_any (some ⟨ad.block, ad.off + 20, none⟩) _ (c - 20) lo hi w4 hpart (by have := HHI.out; have := HW4.out; omega) (by rw [hol]; try omega) (by unfold maxLen; omega)
    rw [hol] at hro
    have HRO := Lib.hid hro
    obtain ⟨data, hdata⟩ : ∃ data, l.drop c = data := ⟨_, rfl⟩
    rw [hdata] at hpart2 hdl
    have HP2 := Lib.hid hpart2
    have HDL := Lib.hid hdl
    have HDT := Lib.hid hdata
    obtain ⟨ol, hol2⟩ : ∃ ol, (l.take c).drop 20 = ol := ⟨_, rfl⟩
    rw [hol2] at HRO HE4
    clear hpart hpart2 hol hdl hro hol2 hdata
    --STOP3
    go_wp2_with fail
    refine HRO.out.mono ?_
    rintro e w5 ⟨rfl, hb5⟩
    have HB5 := Lib.hid (HB4.out.trans (hb5.mono HB4.out.size))
    have HGZ5 := Lib.hid ((hb5.block _ (row_lt HGZ4.out)).trans HGZ4.out)
    have HR5 := Lib.hid (HR4.out.below hb5 (by have := HHI.out; have := HW4.out; omega))
    have HW5 : Hid (w.heap.size + 2 < w5.heap.size) := row_lt HGZ5.out
    have hm16 : ∀ m, opts 0 ol = some m → m < 65536 := fun m hm => opts_lt _ _ _ _ (Nat.le_refl _) (by omega) hm
    clear hb5 q1
    cases hop : opts 0 ol with
    | none =>
      rw [hop] at HE4
      have HE := HE4
      have HO := Lib.hid (readOpts_none hop)
      rw [HO.out]
      clear hop hm16
      go_wp2_with (refine wpList_store_row rfl 26 _ _ rfl (w.heap.size + 2) #[.int .u16 0, .int .u16 0, .int .u32 0, .int .u32 0, .int .u8 0, .int .u16 0, .int .u16 0, .slice none 0 0] rfl rfl 26 #[.int .u16 0, .int .u16 0, .int .u32 0, .int .u32 0, .int .u8 0, .int .u16 0, .int .u16 0, .slice none 0 0] HGZ5.out (by kernel_rfl) rfl (by kernel_rfl) ?_)
      (try simp only [Exit.inBlock, Exit.then])
      refine ret_row (g := w.heap.size + 2) (cs := #[.int .u16 0, .int .u16 0, .int .u32 0, .int .u32 0, .int .u8 0, .int .u16 0, .int .u16 0, .slice none 0 0]) rfl rfl (load_sg (setRow_heap w5 _ _ _ _ _ HGZ5.out) rfl) rfl ?_
      rw [HE.out]
      exact ⟨_, rfl, zero_sg _ _ _, below_setRowO HB5.out (by omega) _⟩
    | some m =>
      have hm2 := hm16 m hop
      rw [hop] at HE4
      have HE5 : Hid (sgOpen [s0, s1, s2, s3] [d0, d1, d2, d3] l = (sgOf l m, 0)) := HE4.out
      have HO := Lib.hid (readOpts_some hop)
      rw [HO.out]
      clear hop hm16
      have hfd := fields_any (some ad) l c lo hi w5 HR5.out (by have := HHI.out; have := HW5.out; omega) (by rw [HN.out]; omega) (by rw [HN.out]; unfold maxLen; omega)
      have HSG : Hid (sgOf l m = ⟨numAt l 0, numAt l 2, num4 l 4, num4 l 8, UInt8.ofNat (f.toNat % 32), numAt l 14, if f.toNat / 2 % 2 = 1 then m else 0, data⟩) := by show _ = _; unfold sgOf; rw [g13, HHD.out, HDT.out]
      have HF8 : Hid ((UInt8.ofNat (f.toNat % 32)).toNat = f.toNat % 32) := small_flags (by omega)
      have b0 := numAt_lt l 0
      have b2 := numAt_lt l 2
      have b4 := num4_lt l 4
      have b8 := num4_lt l 8
      have b14 := numAt_lt l 14
      rw [HN.out, g13] at hfd
      obtain ⟨p0, e0⟩ : ∃ p, numAt l 0 = p := ⟨_, rfl⟩
      obtain ⟨p2, e2⟩ : ∃ p, numAt l 2 = p := ⟨_, rfl⟩
      obtain ⟨p4, e4⟩ : ∃ p, num4 l 4 = p := ⟨_, rfl⟩
      obtain ⟨p8, e8⟩ : ∃ p, num4 l 8 = p := ⟨_, rfl⟩
      obtain ⟨p14, e14⟩ : ∃ p, numAt l 14 = p := ⟨_, rfl⟩
      obtain ⟨fl, efl⟩ : ∃ p, UInt8.ofNat (f.toNat % 32) = p := ⟨_, rfl⟩
      obtain ⟨fn, efn⟩ : ∃ p, f.toNat = p := ⟨_, rfl⟩
      rw [e0, e2, e4, e8, e14] at hfd HSG
      rw [efl] at HSG HF8
      rw [efn] at hfd HSG HF8 hfl
      rw [e0] at b0
      rw [e2] at b2
      rw [e4] at b4
      rw [e8] at b8
      rw [e14] at b14
      obtain ⟨p13, hp13⟩ : ∃ p, fn % 32 = p := ⟨_, rfl⟩
      have ha2 := and_2 p13 (by omega)
      have hp2 : p13 / 2 % 2 = fn / 2 % 2 := by rw [← hp13]; omega
      rw [hp2] at ha2
      rw [hp13] at hfd HF8
      have HFD := Lib.hid hfd
      have HOKX : Hid (p0 < 65536 ∧ p2 < 65536 ∧ p4 < 4294967296 ∧ p8 < 4294967296 ∧ p14 < 65536) := ⟨b0, b2, b4, b8, b14⟩
      have hbit : fn / 2 % 2 = 0 ∨ fn / 2 % 2 = 1 := by omega
      clear hfd b0 b2 b4 b8 b14 hp13 hp2 g13 hf e0 e2 e4 e8 e14 efl efn
      --STOP6
      go_wp2_with fail
      refine HFD.out.mono ?_
      rintro e w6 ⟨rfl, hb6⟩
      have HB6 := Lib.hid (HB5.out.trans (hb6.mono HB5.out.size))
      have HGZ6 := Lib.hid ((hb6.block _ (row_lt HGZ5.out)).trans HGZ5.out)
      have HR6 := Lib.hid (HR5.out.below hb6 (by have := HHI.out; have := HW5.out; omega))
      have HW6 : Hid (w.heap.size + 2 < w6.heap.size) := row_lt HGZ6.out
      clear hb6
      have HB7 := Lib.hid (HB6.out.alloc HB6.out.size (.cells #[.int .u16 (p0 : Int), .int .u16 (p2 : Int), .int .u32 (p4 : Int), .int .u32 (p8 : Int), .int .u8 (p13 : Int), .int .u16 (p14 : Int), .int .u16 0, .slice none 0 0] 26))
      have HGZ7 := Lib.hid (old_alloc HGZ6.out (.cells #[.int .u16 (p0 : Int), .int .u16 (p2 : Int), .int .u32 (p4 : Int), .int .u32 (p8 : Int), .int .u8 (p13 : Int), .int .u16 (p14 : Int), .int .u16 0, .slice none 0 0] 26))
      have HR7 := Lib.hid (HR6.out.alloc (by have := HHI.out; have := HW6.out; omega) (.cells #[.int .u16 (p0 : Int), .int .u16 (p2 : Int), .int .u32 (p4 : Int), .int .u32 (p8 : Int), .int .u8 (p13 : Int), .int .u16 (p14 : Int), .int .u16 0, .slice none 0 0] 26))
      have hgy := heap_alloc_new w6 (.cells #[.int .u16 (p0 : Int), .int .u16 (p2 : Int), .int .u32 (p4 : Int), .int .u32 (p8 : Int), .int .u8 (p13 : Int), .int .u16 (p14 : Int), .int .u16 0, .slice none 0 0] 26)
      have HGY7 := Lib.hid hgy
      have k4 := cell_of_row _ _ 4 _ _ _ hgy
      have k6 := cell_of_row _ _ 6 _ _ _ hgy
      have k7 := cell_of_row _ _ 7 _ _ _ hgy
      clear hgy
      --STOP7
      go_upto_region 16 with (refine wpList_store_newS rfl 26 _ _ rfl w6 #[.int .u16 0, .int .u16 0, .int .u32 0, .int .u32 0, .int .u8 0, .int .u16 0, .int .u16 0, .slice none 0 0] #[.int .u16 (p0 : Int), .int .u16 (p2 : Int), .int .u32 (p4 : Int), .int .u32 (p8 : Int), .int .u8 (p13 : Int), .int .u16 (p14 : Int), .int .u16 0, .slice none 0 0] rfl rfl (by kernel_rfl) rfl (by kernel_rfl) ?_)
      generalize w6.alloc (.cells #[.int .u16 (p0 : Int), .int .u16 (p2 : Int), .int .u32 (p4 : Int), .int .u32 (p8 : Int), .int .u8 (p13 : Int), .int .u16 (p14 : Int), .int .u16 0, .slice none 0 0] 26) = w7 at HB7 HGZ7 HR7 HGY7 k4 k6 k7 ⊢
      --STOP8
      have HGW : Hid (w.heap.size + 2 < w6.heap.size) := HW6.out
      have hb7 : w6.heap.size < w7.heap.size := row_lt HGY7.out
      have hf6 := frozen_of_row _ _ 6 _ _ HGY7.out
      rcases hbit with hb0 | hb1
      · rw [hb0] at ha2 HSG
        rw [if_neg (by decide)] at HSG
        clear hb0
        simp only [Act.put]
        have HBv : Hid (Below w.heap.size w w7) := HB7.out
        have HGZv : Hid (w7.heap[w.heap.size + 2]? = some (.cells #[.int .u16 0, .int .u16 0, .int .u32 0, .int .u32 0, .int .u8 0, .int .u16 0, .int .u16 0, .slice none 0 0] 26 (0, 0))) := HGZ7.out
        have HRv : Hid (Rd w7 lo hi (some ad) (cells l)) := HR7.out
        have HGYv : Hid (w7.heap[w6.heap.size]? = some (.cells #[.int .u16 (p0 : Int), .int .u16 (p2 : Int), .int .u32 (p4 : Int), .int .u32 (p8 : Int), .int .u8 (p13 : Int), .int .u16 (p14 : Int), .int .u16 0, .slice none 0 0] 26 (0, 0))) := HGY7.out
        have HSv : Hid (w6.heap.size < w7.heap.size) := row_lt HGYv.out
        go_wp2_with fail
        have hcl := clone_len (some ad) data 0 0 lo hi w7 (HP2.out w7 HRv.out) (by rw [HDL.out]; omega) HDL.out
        refine hcl.mono ?_
        clear hcl
        rintro e w8 ⟨A6, c6, rfl, ho8, hb8⟩
        have HB8 : Hid (Below w.heap.size w (w8.setCell ⟨w6.heap.size, 7, none⟩ (.slice A6 0 c6))) := (HBv.out.trans (hb8.mono HBv.out.size)).setCell (by have := HGW.out; simp only; omega) _
        have hz8 := (hb8.block _ (row_lt HGZv.out)).trans HGZv.out
        have hy8 := (hb8.block _ HSv.out).trans HGYv.out
        have HGZ8 : Hid ((w8.setCell ⟨w6.heap.size, 7, none⟩ (.slice A6 0 c6)).heap[w.heap.size + 2]? = some (.cells #[.int .u16 0, .int .u16 0, .int .u32 0, .int .u32 0, .int .u8 0, .int .u16 0, .int .u16 0, .slice none 0 0] 26 (0, 0))) := (heap_setCell_other _ _ _ _ (by have := HGW.out; simp only; omega)).trans hz8
        have HGY8 : Hid ((w8.setCell ⟨w6.heap.size, 7, none⟩ (.slice A6 0 c6)).heap[w6.heap.size]? = some (.cells #[.int .u16 (p0 : Int), .int .u16 (p2 : Int), .int .u32 (p4 : Int), .int .u32 (p8 : Int), .int .u8 (p13 : Int), .int .u16 (p14 : Int), .int .u16 0, .slice A6 0 c6] 26 (0, 0))) := heap_setCell_same w8 w6.heap.size 7 #[.int .u16 (p0 : Int), .int .u16 (p2 : Int), .int .u32 (p4 : Int), .int .u32 (p8 : Int), .int .u8 (p13 : Int), .int .u16 (p14 : Int), .int .u16 0, .slice none 0 0] 26 (.slice A6 0 c6) hy8
        have k7v := cell_of_row _ _ 7 _ _ _ hy8
        have hf7 := frozen_of_row _ _ 7 _ _ hy8
        have hfr := fresh_own ho8 HDL.out
        have HFR : Hid (Fresh w7.heap.size data (.slice A6 0 c6) (w8.setCell ⟨w6.heap.size, 7, none⟩ (.slice A6 0 c6))) := by
          obtain ⟨A', c', q1, q2, q3⟩ := hfr
          simp only [Value.slice.injEq] at q1
          obtain ⟨rfl, q4, rfl⟩ := q1
          exact ⟨A6, c6, by rw [HDL.out], (q2.setCell (.inl HSv.out) _).wide (Nat.le_refl _) (by simp), q3⟩
        clear hb8 hz8 hy8 ho8 hfr k4 k6 k7 hf6
        go_wp2_with (first | refine wpList_load_row rfl 26 _ rfl w6.heap.size rfl 26 #[.int .u16 (p0 : Int), .int .u16 (p2 : Int), .int .u32 (p4 : Int), .int .u32 (p8 : Int), .int .u8 (p13 : Int), .int .u16 (p14 : Int), .int .u16 0, .slice A6 0 c6] (0, 0) _ HGY8.out Try.underlying26 rfl (by kernel_rfl) ?_ | refine wpList_store_row rfl 26 _ _ rfl (w.heap.size + 2) #[.int .u16 (p0 : Int), .int .u16 (p2 : Int), .int .u32 (p4 : Int), .int .u32 (p8 : Int), .int .u8 (p13 : Int), .int .u16 (p14 : Int), .int .u16 0, .slice A6 0 c6] rfl rfl 26 #[.int .u16 0, .int .u16 0, .int .u32 0, .int .u32 0, .int .u8 0, .int .u16 0, .int .u16 0, .slice none 0 0] HGZ8.out (by kernel_rfl) rfl (by kernel_rfl) ?_)
        (try simp only [Exit.inBlock, Exit.then])
        refine ret_row (g := w.heap.size + 2) (cs := #[.int .u16 (p0 : Int), .int .u16 (p2 : Int), .int .u32 (p4 : Int), .int .u32 (p8 : Int), .int .u8 (p13 : Int), .int .u16 (p14 : Int), .int .u16 0, .slice A6 0 c6]) rfl rfl (load_sg (setRow_heap (w8.setCell ⟨w6.heap.size, 7, none⟩ (.slice A6 0 c6)) _ _ _ _ _ HGZ8.out) rfl) rfl ?_
        rw [HE5.out, HSG.out]
        obtain ⟨A', c', q1, q2, q3, q4, q5⟩ := HFR.out
        simp only [Value.slice.injEq] at q1
        obtain ⟨rfl, -, rfl⟩ := q1
        refine ⟨_, rfl, ⟨A6, c6, ?_, ⟨HOKX.out.1, HOKX.out.2.1, HOKX.out.2.2.1, HOKX.out.2.2.2.1, HOKX.out.2.2.2.2, (by show 0 < 65536; decide)⟩, (q2.keep fun p hp _ => World.cell?_of_block (setRow_other _ _ _ _ (by have h1 := HGW.out; have h2 := HSv.out; omega))).wide (by have h1 := HGW.out; have h2 := HSv.out; omega) (by simp), q4, q5, q3⟩, below_setRowO HB8.out (by omega) _⟩
        show (#[.int .u16 (p0 : Int), .int .u16 (p2 : Int), .int .u32 (p4 : Int), .int .u32 (p8 : Int), .int .u8 (p13 : Int), .int .u16 (p14 : Int), .int .u16 0, .slice A6 0 c6] : Array Value) = #[.int .u16 (p0 : Int), .int .u16 (p2 : Int), .int .u32 (p4 : Int), .int .u32 (p8 : Int), .int .u8 (fl.toNat : Int), .int .u16 (p14 : Int), .int .u16 ((0 : Nat) : Int), .slice A6 data.length c6]
        rw [HF8.out, HDL.out]
        rfl
      · rw [hb1] at ha2 HSG
        rw [if_pos rfl] at HSG
        clear hb1
        simp only [Act.put]
        have HBv : Hid (Below w.heap.size w (w7.setCell ⟨w6.heap.size, 6, none⟩ (.int .u16 (m : Int)))) := HB7.out.setCell (by have := HGW.out; simp only; omega) _
        have HGZv : Hid ((w7.setCell ⟨w6.heap.size, 6, none⟩ (.int .u16 (m : Int))).heap[w.heap.size + 2]? = some (.cells #[.int .u16 0, .int .u16 0, .int .u32 0, .int .u32 0, .int .u8 0, .int .u16 0, .int .u16 0, .slice none 0 0] 26 (0, 0))) := (heap_setCell_other _ _ _ _ (by have := HGW.out; simp only; omega)).trans HGZ7.out
        have HRv : Hid (Rd (w7.setCell ⟨w6.heap.size, 6, none⟩ (.int .u16 (m : Int))) lo hi (some ad) (cells l)) := HR7.out.setCell (.inr (by have h1 := HHI.out; have h2 := HGW.out; simp only; omega)) _
        have HGYv : Hid ((w7.setCell ⟨w6.heap.size, 6, none⟩ (.int .u16 (m : Int))).heap[w6.heap.size]? = some (.cells #[.int .u16 (p0 : Int), .int .u16 (p2 : Int), .int .u32 (p4 : Int), .int .u32 (p8 : Int), .int .u8 (p13 : Int), .int .u16 (p14 : Int), .int .u16 (m : Int), .slice none 0 0] 26 (0, 0))) := heap_setCell_same w7 w6.heap.size 6 #[.int .u16 (p0 : Int), .int .u16 (p2 : Int), .int .u32 (p4 : Int), .int .u32 (p8 : Int), .int .u8 (p13 : Int), .int .u16 (p14 : Int), .int .u16 0, .slice none 0 0] 26 (.int .u16 (m : Int)) HGY7.out
        have HSv : Hid (w6.heap.size < (w7.setCell ⟨w6.heap.size, 6, none⟩ (.int .u16 (m : Int))).heap.size) := row_lt HGYv.out
        go_wp2_with fail
        generalize (w7.setCell ⟨w6.heap.size, 6, none⟩ (.int .u16 (m : Int))) = wv at HBv HGZv HRv HGYv HSv ⊢
        have hcl := clone_len (some ad) data 0 0 lo hi wv (HP2.out wv HRv.out) (by rw [HDL.out]; omega) HDL.out
        refine hcl.mono ?_
        clear hcl
        rintro e w8 ⟨A6, c6, rfl, ho8, hb8⟩
        have HB8 : Hid (Below w.heap.size w (w8.setCell ⟨w6.heap.size, 7, none⟩ (.slice A6 0 c6))) := (HBv.out.trans (hb8.mono HBv.out.size)).setCell (by have := HGW.out; simp only; omega) _
        have hz8 := (hb8.block _ (row_lt HGZv.out)).trans HGZv.out
        have hy8 := (hb8.block _ HSv.out).trans HGYv.out
        have HGZ8 : Hid ((w8.setCell ⟨w6.heap.size, 7, none⟩ (.slice A6 0 c6)).heap[w.heap.size + 2]? = some (.cells #[.int .u16 0, .int .u16 0, .int .u32 0, .int .u32 0, .int .u8 0, .int .u16 0, .int .u16 0, .slice none 0 0] 26 (0, 0))) := (heap_setCell_other _ _ _ _ (by have := HGW.out; simp only; omega)).trans hz8
        have HGY8 : Hid ((w8.setCell ⟨w6.heap.size, 7, none⟩ (.slice A6 0 c6)).heap[w6.heap.size]? = some (.cells #[.int .u16 (p0 : Int), .int .u16 (p2 : Int), .int .u32 (p4 : Int), .int .u32 (p8 : Int), .int .u8 (p13 : Int), .int .u16 (p14 : Int), .int .u16 (m : Int), .slice A6 0 c6] 26 (0, 0))) := heap_setCell_same w8 w6.heap.size 7 #[.int .u16 (p0 : Int), .int .u16 (p2 : Int), .int .u32 (p4 : Int), .int .u32 (p8 : Int), .int .u8 (p13 : Int), .int .u16 (p14 : Int), .int .u16 (m : Int), .slice none 0 0] 26 (.slice A6 0 c6) hy8
        have k7v := cell_of_row _ _ 7 _ _ _ hy8
        have hf7 := frozen_of_row _ _ 7 _ _ hy8
        have hfr := fresh_own ho8 HDL.out
        have HFR : Hid (Fresh wv.heap.size data (.slice A6 0 c6) (w8.setCell ⟨w6.heap.size, 7, none⟩ (.slice A6 0 c6))) := by
          obtain ⟨A', c', q1, q2, q3⟩ := hfr
          simp only [Value.slice.injEq] at q1
          obtain ⟨rfl, q4, rfl⟩ := q1
          exact ⟨A6, c6, by rw [HDL.out], (q2.setCell (.inl HSv.out) _).wide (Nat.le_refl _) (by simp), q3⟩
        clear hb8 hz8 hy8 ho8 hfr k4 k6 k7 hf6
        go_wp2_with (first | refine wpList_load_row rfl 26 _ rfl w6.heap.size rfl 26 #[.int .u16 (p0 : Int), .int .u16 (p2 : Int), .int .u32 (p4 : Int), .int .u32 (p8 : Int), .int .u8 (p13 : Int), .int .u16 (p14 : Int), .int .u16 (m : Int), .slice A6 0 c6] (0, 0) _ HGY8.out Try.underlying26 rfl (by kernel_rfl) ?_ | refine wpList_store_row rfl 26 _ _ rfl (w.heap.size + 2) #[.int .u16 (p0 : Int), .int .u16 (p2 : Int), .int .u32 (p4 : Int), .int .u32 (p8 : Int), .int .u8 (p13 : Int), .int .u16 (p14 : Int), .int .u16 (m : Int), .slice A6 0 c6] rfl rfl 26 #[.int .u16 0, .int .u16 0, .int .u32 0, .int .u32 0, .int .u8 0, .int .u16 0, .int .u16 0, .slice none 0 0] HGZ8.out (by kernel_rfl) rfl (by kernel_rfl) ?_)
        (try simp only [Exit.inBlock, Exit.then])
        refine ret_row (g := w.heap.size + 2) (cs := #[.int .u16 (p0 : Int), .int .u16 (p2 : Int), .int .u32 (p4 : Int), .int .u32 (p8 : Int), .int .u8 (p13 : Int), .int .u16 (p14 : Int), .int .u16 (m : Int), .slice A6 0 c6]) rfl rfl (load_sg (setRow_heap (w8.setCell ⟨w6.heap.size, 7, none⟩ (.slice A6 0 c6)) _ _ _ _ _ HGZ8.out) rfl) rfl ?_
        rw [HE5.out, HSG.out]
        obtain ⟨A', c', q1, q2, q3, q4, q5⟩ := HFR.out
        simp only [Value.slice.injEq] at q1
        obtain ⟨rfl, -, rfl⟩ := q1
        refine ⟨_, rfl, ⟨A6, c6, ?_, ⟨HOKX.out.1, HOKX.out.2.1, HOKX.out.2.2.1, HOKX.out.2.2.2.1, HOKX.out.2.2.2.2, hm2⟩, (q2.keep fun p hp _ => World.cell?_of_block (setRow_other _ _ _ _ (by have h1 := HGW.out; have h2 := HSv.out; omega))).wide (by have h1 := HGW.out; have h2 := HSv.out; omega) (by simp), q4, q5, q3⟩, below_setRowO HB8.out (by omega) _⟩
        show (#[.int .u16 (p0 : Int), .int .u16 (p2 : Int), .int .u32 (p4 : Int), .int .u32 (p8 : Int), .int .u8 (p13 : Int), .int .u16 (p14 : Int), .int .u16 (m : Int), .slice A6 0 c6] : Array Value) = #[.int .u16 (p0 : Int), .int .u16 (p2 : Int), .int .u32 (p4 : Int), .int .u32 (p8 : Int), .int .u8 (fl.toNat : Int), .int .u16 (p14 : Int), .int .u16 (m : Int), .slice A6 data.length c6]
        rw [HF8.out, HDL.out]
  · skip
    have hpart : Rd w4 lo hi (some ⟨ad.block, ad.off + 20, none⟩) (cells ((l.take hq).drop 20)) := by
      have h1 := HR4.out.take hq
      rw [cells_take] at h1
      have h2 := (rd_from (k := 20) (c := c) h1 (by rw [List.length_take, HN.out]; omega))
      rw [if_neg hc20] at h2
      exact h2
    have hpart2 : ∀ w' : World, Rd w' lo hi (some ad) (cells l) → Rd w' lo hi (some (ad.add hq)) (cells (l.drop hq)) := fun w' h1 => by
      have h2 := rd_from (k := hq) (c := c) h1 (by rw [HN.out]; omega)
      rw [if_neg hcq] at h2
      exact h2
    have hol : ((l.take hq).drop 20).length = (hq - 20) := by rw [List.length_drop, List.length_take, HN.out]; omega
    have hdl : (l.drop hq).length = (n - hq) := by rw [List.length_drop, HN.out]; try omega
    have hro := readopts_any (some ⟨ad.block, ad.off + 20, none⟩) _ (c - 20) lo hi w4 hpart (by have := HHI.out; have := HW4.out; omega) (by rw [hol]; try omega) (by unfold maxLen; omega)
    rw [hol] at hro
    have HRO := Lib.hid hro
    obtain ⟨data, hdata⟩ : ∃ data, l.drop hq = data := ⟨_, rfl⟩
    rw [hdata] at hpart2 hdl
    have HP2 := Lib.hid hpart2
    have HDL := Lib.hid hdl
    have HDT := Lib.hid hdata
    obtain ⟨ol, hol2⟩ : ∃ ol, (l.take hq).drop 20 = ol := ⟨_, rfl⟩
    rw [hol2] at HRO HE4
    clear hpart hpart2 hol hdl hro hol2 hdata
    --STOP3
    go_wp2_with fail
    refine HRO.out.mono ?_
    rintro e w5 ⟨rfl, hb5⟩
    have HB5 := Lib.hid (HB4.out.trans (hb5.mono HB4.out.size))
    have HGZ5 := Lib.hid ((hb5.block _ (row_lt HGZ4.out)).trans HGZ4.out)
    have HR5 := Lib.hid (HR4.out.below hb5 (by have := HHI.out; have := HW4.out; omega))
    have HW5 : Hid (w.heap.size + 2 < w5.heap.size) := row_lt HGZ5.out
    have hm16 : ∀ m, opts 0 ol = some m → m < 65536 := fun m hm => opts_lt _ _ _ _ (Nat.le_refl _) (by omega) hm
    clear hb5 q1
    cases hop : opts 0 ol with
    | none =>
      rw [hop] at HE4
      have HE := HE4
      have HO := Lib.hid (readOpts_none hop)
      rw [HO.out]
      clear hop hm16
      go_wp2_with (refine wpList_store_row rfl 26 _ _ rfl (w.heap.size + 2) #[.int .u16 0, .int .u16 0, .int .u32 0, .int .u32 0, .int .u8 0, .int .u16 0, .int .u16 0, .slice none 0 0] rfl rfl 26 #[.int .u16 0, .int .u16 0, .int .u32 0, .int .u32 0, .int .u8 0, .int .u16 0, .int .u16 0, .slice none 0 0] HGZ5.out (by kernel_rfl) rfl (by kernel_rfl) ?_)
      (try simp only [Exit.inBlock, Exit.then])
      refine ret_row (g := w.heap.size + 2) (cs := #[.int .u16 0, .int .u16 0, .int .u32 0, .int .u32 0, .int .u8 0, .int .u16 0, .int .u16 0, .slice none 0 0]) rfl rfl (load_sg (setRow_heap w5 _ _ _ _ _ HGZ5.out) rfl) rfl ?_
      rw [HE.out]
      exact ⟨_, rfl, zero_sg _ _ _, below_setRowO HB5.out (by omega) _⟩
    | some m =>
      have hm2 := hm16 m hop
      rw [hop] at HE4
      have HE5 : Hid (sgOpen [s0, s1, s2, s3] [d0, d1, d2, d3] l = (sgOf l m, 0)) := HE4.out
      have HO := Lib.hid (readOpts_some hop)
      rw [HO.out]
      clear hop hm16
      have hfd := fields_any (some ad) l c lo hi w5 HR5.out (by have := HHI.out; have := HW5.out; omega) (by rw [HN.out]; omega) (by rw [HN.out]; unfold maxLen; omega)
      have HSG : Hid (sgOf l m = ⟨numAt l 0, numAt l 2, num4 l 4, num4 l 8, UInt8.ofNat (f.toNat % 32), numAt l 14, if f.toNat / 2 % 2 = 1 then m else 0, data⟩) := by show _ = _; unfold sgOf; rw [g13, HHD.out, HDT.out]
      have HF8 : Hid ((UInt8.ofNat (f.toNat % 32)).toNat = f.toNat % 32) := small_flags (by omega)
      have b0 := numAt_lt l 0
      have b2 := numAt_lt l 2
      have b4 := num4_lt l 4
      have b8 := num4_lt l 8
      have b14 := numAt_lt l 14
      rw [HN.out, g13] at hfd
      obtain ⟨p0, e0⟩ : ∃ p, numAt l 0 = p := ⟨_, rfl⟩
      obtain ⟨p2, e2⟩ : ∃ p, numAt l 2 = p := ⟨_, rfl⟩
      obtain ⟨p4, e4⟩ : ∃ p, num4 l 4 = p := ⟨_, rfl⟩
      obtain ⟨p8, e8⟩ : ∃ p, num4 l 8 = p := ⟨_, rfl⟩
      obtain ⟨p14, e14⟩ : ∃ p, numAt l 14 = p := ⟨_, rfl⟩
      obtain ⟨fl, efl⟩ : ∃ p, UInt8.ofNat (f.toNat % 32) = p := ⟨_, rfl⟩
      obtain ⟨fn, efn⟩ : ∃ p, f.toNat = p := ⟨_, rfl⟩
      rw [e0, e2, e4, e8, e14] at hfd HSG
      rw [efl] at HSG HF8
      rw [efn] at hfd HSG HF8 hfl
      rw [e0] at b0
      rw [e2] at b2
      rw [e4] at b4
      rw [e8] at b8
      rw [e14] at b14
      obtain ⟨p13, hp13⟩ : ∃ p, fn % 32 = p := ⟨_, rfl⟩
      have ha2 := and_2 p13 (by omega)
      have hp2 : p13 / 2 % 2 = fn / 2 % 2 := by rw [← hp13]; omega
      rw [hp2] at ha2
      rw [hp13] at hfd HF8
      have HFD := Lib.hid hfd
      have HOKX : Hid (p0 < 65536 ∧ p2 < 65536 ∧ p4 < 4294967296 ∧ p8 < 4294967296 ∧ p14 < 65536) := ⟨b0, b2, b4, b8, b14⟩
      have hbit : fn / 2 % 2 = 0 ∨ fn / 2 % 2 = 1 := by omega
      clear hfd b0 b2 b4 b8 b14 hp13 hp2 g13 hf e0 e2 e4 e8 e14 efl efn
      --STOP6
      go_wp2_with fail
      refine HFD.out.mono ?_
      rintro e w6 ⟨rfl, hb6⟩
      have HB6 := Lib.hid (HB5.out.trans (hb6.mono HB5.out.size))
      have HGZ6 := Lib.hid ((hb6.block _ (row_lt HGZ5.out)).trans HGZ5.out)
      have HR6 := Lib.hid (HR5.out.below hb6 (by have := HHI.out; have := HW5.out; omega))
      have HW6 : Hid (w.heap.size + 2 < w6.heap.size) := row_lt HGZ6.out
      clear hb6
      have HB7 := Lib.hid (HB6.out.alloc HB6.out.size (.cells #[.int .u16 (p0 : Int), .int .u16 (p2 : Int), .int .u32 (p4 : Int), .int .u32 (p8 : Int), .int .u8 (p13 : Int), .int .u16 (p14 : Int), .int .u16 0, .slice none 0 0] 26))
      have HGZ7 := Lib.hid (old_alloc HGZ6.out (.cells #[.int .u16 (p0 : Int), .int .u16 (p2 : Int), .int .u32 (p4 : Int), .int .u32 (p8 : Int), .int .u8 (p13 : Int), .int .u16 (p14 : Int), .int .u16 0, .slice none 0 0] 26))
      have HR7 := Lib.hid (HR6.out.alloc (by have := HHI.out; have := HW6.out; omega) (.cells #[.int .u16 (p0 : Int), .int .u16 (p2 : Int), .int .u32 (p4 : Int), .int .u32 (p8 : Int), .int .u8 (p13 : Int), .int .u16 (p14 : Int), .int .u16 0, .slice none 0 0] 26))
      have hgy := heap_alloc_new w6 (.cells #[.int .u16 (p0 : Int), .int .u16 (p2 : Int), .int .u32 (p4 : Int), .int .u32 (p8 : Int), .int .u8 (p13 : Int), .int .u16 (p14 : Int), .int .u16 0, .slice none 0 0] 26)
      have HGY7 := Lib.hid hgy
      have k4 := cell_of_row _ _ 4 _ _ _ hgy
      have k6 := cell_of_row _ _ 6 _ _ _ hgy
      have k7 := cell_of_row _ _ 7 _ _ _ hgy
      clear hgy
      --STOP7
      go_upto_region 16 with (refine wpList_store_newS rfl 26 _ _ rfl w6 #[.int .u16 0, .int .u16 0, .int .u32 0, .int .u32 0, .int .u8 0, .int .u16 0, .int .u16 0, .slice none 0 0] #[.int .u16 (p0 : Int), .int .u16 (p2 : Int), .int .u32 (p4 : Int), .int .u32 (p8 : Int), .int .u8 (p13 : Int), .int .u16 (p14 : Int), .int .u16 0, .slice none 0 0] rfl rfl (by kernel_rfl) rfl (by kernel_rfl) ?_)
      generalize w6.alloc (.cells #[.int .u16 (p0 : Int), .int .u16 (p2 : Int), .int .u32 (p4 : Int), .int .u32 (p8 : Int), .int .u8 (p13 : Int), .int .u16 (p14 : Int), .int .u16 0, .slice none 0 0] 26) = w7 at HB7 HGZ7 HR7 HGY7 k4 k6 k7 ⊢
      --STOP8
      have HGW : Hid (w.heap.size + 2 < w6.heap.size) := HW6.out
      have hb7 : w6.heap.size < w7.heap.size := row_lt HGY7.out
      have hf6 := frozen_of_row _ _ 6 _ _ HGY7.out
      rcases hbit with hb0 | hb1
      · rw [hb0] at ha2 HSG
        rw [if_neg (by decide)] at HSG
        clear hb0
        simp only [Act.put]
        have HBv : Hid (Below w.heap.size w w7) := HB7.out
        have HGZv : Hid (w7.heap[w.heap.size + 2]? = some (.cells #[.int .u16 0, .int .u16 0, .int .u32 0, .int .u32 0, .int .u8 0, .int .u16 0, .int .u16 0, .slice none 0 0] 26 (0, 0))) := HGZ7.out
        have HRv : Hid (Rd w7 lo hi (some ad) (cells l)) := HR7.out
        have HGYv : Hid (w7.heap[w6.heap.size]? = some (.cells #[.int .u16 (p0 : Int), .int .u16 (p2 : Int), .int .u32 (p4 : Int), .int .u32 (p8 : Int), .int .u8 (p13 : Int), .int .u16 (p14 : Int), .int .u16 0, .slice none 0 0] 26 (0, 0))) := HGY7.out
        have HSv : Hid (w6.heap.size < w7.heap.size) := row_lt HGYv.out
        go_wp2_with fail
        have hcl := clone_len (some (ad.add hq)) data (n - hq) (c - hq) lo hi w7 (HP2.out w7 HRv.out) (by rw [HDL.out]; omega) HDL.out
        refine hcl.mono ?_
        clear hcl
        rintro e w8 ⟨A6, c6, rfl, ho8, hb8⟩
        have HB8 : Hid (Below w.heap.size w (w8.setCell ⟨w6.heap.size, 7, none⟩ (.slice A6 (n - hq) c6))) := (HBv.out.trans (hb8.mono HBv.out.size)).setCell (by have := HGW.out; simp only; omega) _
        have hz8 := (hb8.block _ (row_lt HGZv.out)).trans HGZv.out
        have hy8 := (hb8.block _ HSv.out).trans HGYv.out
        have HGZ8 : Hid ((w8.setCell ⟨w6.heap.size, 7, none⟩ (.slice A6 (n - hq) c6)).heap[w.heap.size + 2]? = some (.cells #[.int .u16 0, .int .u16 0, .int .u32 0, .int .u32 0, .int .u8 0, .int .u16 0, .int .u16 0, .slice none 0 0] 26 (0, 0))) := (heap_setCell_other _ _ _ _ (by have := HGW.out; simp only; omega)).trans hz8
        have HGY8 : Hid ((w8.setCell ⟨w6.heap.size, 7, none⟩ (.slice A6 (n - hq) c6)).heap[w6.heap.size]? = some (.cells #[.int .u16 (p0 : Int), .int .u16 (p2 : Int), .int .u32 (p4 : Int), .int .u32 (p8 : Int), .int .u8 (p13 : Int), .int .u16 (p14 : Int), .int .u16 0, .slice A6 (n - hq) c6] 26 (0, 0))) := heap_setCell_same w8 w6.heap.size 7 #[.int .u16 (p0 : Int), .int .u16 (p2 : Int), .int .u32 (p4 : Int), .int .u32 (p8 : Int), .int .u8 (p13 : Int), .int .u16 (p14 : Int), .int .u16 0, .slice none 0 0] 26 (.slice A6 (n - hq) c6) hy8
        have k7v := cell_of_row _ _ 7 _ _ _ hy8
        have hf7 := frozen_of_row _ _ 7 _ _ hy8
        have hfr := fresh_own ho8 HDL.out
        have HFR : Hid (Fresh w7.heap.size data (.slice A6 (n - hq) c6) (w8.setCell ⟨w6.heap.size, 7, none⟩ (.slice A6 (n - hq) c6))) := by
          obtain ⟨A', c', q1, q2, q3⟩ := hfr
          simp only [Value.slice.injEq] at q1
          obtain ⟨rfl, q4, rfl⟩ := q1
          exact ⟨A6, c6, by rw [HDL.out], (q2.setCell (.inl HSv.out) _).wide (Nat.le_refl _) (by simp), q3⟩
        clear hb8 hz8 hy8 ho8 hfr k4 k6 k7 hf6
        go_wp2_with (first | refine wpList_load_row rfl 26 _ rfl w6.heap.size rfl 26 #[.int .u16 (p0 : Int), .int .u16 (p2 : Int), .int .u32 (p4 : Int), .int .u32 (p8 : Int), .int .u8 (p13 : Int), .int .u16 (p14 : Int), .int .u16 0, .slice A6 (n - hq) c6] (0, 0) _ HGY8.out Try.underlying26 rfl (by kernel_rfl) ?_ | refine wpList_store_row rfl 26 _ _ rfl (w.heap.size + 2) #[.int .u16 (p0 : Int), .int .u16 (p2 : Int), .int .u32 (p4 : Int), .int .u32 (p8 : Int), .int .u8 (p13 : Int), .int .u16 (p14 : Int), .int .u16 0, .slice A6 (n - hq) c6] rfl rfl 26 #[.int .u16 0, .int .u16 0, .int .u32 0, .int .u32 0, .int .u8 0, .int .u16 0, .int .u16 0, .slice none 0 0] HGZ8.out (by kernel_rfl) rfl (by kernel_rfl) ?_)
        (try simp only [Exit.inBlock, Exit.then])
        refine ret_row (g := w.heap.size + 2) (cs := #[.int .u16 (p0 : Int), .int .u16 (p2 : Int), .int .u32 (p4 : Int), .int .u32 (p8 : Int), .int .u8 (p13 : Int), .int .u16 (p14 : Int), .int .u16 0, .slice A6 (n - hq) c6]) rfl rfl (load_sg (setRow_heap (w8.setCell ⟨w6.heap.size, 7, none⟩ (.slice A6 (n - hq) c6)) _ _ _ _ _ HGZ8.out) rfl) rfl ?_
        rw [HE5.out, HSG.out]
        obtain ⟨A', c', q1, q2, q3, q4, q5⟩ := HFR.out
        simp only [Value.slice.injEq] at q1
        obtain ⟨rfl, -, rfl⟩ := q1
        refine ⟨_, rfl, ⟨A6, c6, ?_, ⟨HOKX.out.1, HOKX.out.2.1, HOKX.out.2.2.1, HOKX.out.2.2.2.1, HOKX.out.2.2.2.2, (by show 0 < 65536; decide)⟩, (q2.keep fun p hp _ => World.cell?_of_block (setRow_other _ _ _ _ (by have h1 := HGW.out; have h2 := HSv.out; omega))).wide (by have h1 := HGW.out; have h2 := HSv.out; omega) (by simp), q4, q5, q3⟩, below_setRowO HB8.out (by omega) _⟩
        show (#[.int .u16 (p0 : Int), .int .u16 (p2 : Int), .int .u32 (p4 : Int), .int .u32 (p8 : Int), .int .u8 (p13 : Int), .int .u16 (p14 : Int), .int .u16 0, .slice A6 (n - hq) c6] : Array Value) = #[.int .u16 (p0 : Int), .int .u16 (p2 : Int), .int .u32 (p4 : Int), .int .u32 (p8 : Int), .int .u8 (fl.toNat : Int), .int .u16 (p14 : Int), .int .u16 ((0 : Nat) : Int), .slice A6 data.length c6]
        rw [HF8.out, HDL.out]
        rfl
      · rw [hb1] at ha2 HSG
        rw [if_pos rfl] at HSG
        clear hb1
        simp only [Act.put]
        have HBv : Hid (Below w.heap.size w (w7.setCell ⟨w6.heap.size, 6, none⟩ (.int .u16 (m : Int)))) := HB7.out.setCell (by have := HGW.out; simp only; omega) _
        have HGZv : Hid ((w7.setCell ⟨w6.heap.size, 6, none⟩ (.int .u16 (m : Int))).heap[w.heap.size + 2]? = some (.cells #[.int .u16 0, .int .u16 0, .int .u32 0, .int .u32 0, .int .u8 0, .int .u16 0, .int .u16 0, .slice none 0 0] 26 (0, 0))) := (heap_setCell_other _ _ _ _ (by have := HGW.out; simp only; omega)).trans HGZ7.out
        have HRv : Hid (Rd (w7.setCell ⟨w6.heap.size, 6, none⟩ (.int .u16 (m : Int))) lo hi (some ad) (cells l)) := HR7.out.setCell (.inr (by have h1 := HHI.out; have h2 := HGW.out; simp only; omega)) _
        have HGYv : Hid ((w7.setCell ⟨w6.heap.size, 6, none⟩ (.int .u16 (m : Int))).heap[w6.heap.size]? = some (.cells #[.int .u16 (p0 : Int), .int .u16 (p2 : Int), .int .u32 (p4 : Int), .int .u32 (p8 : Int), .int .u8 (p13 : Int), .int .u16 (p14 : Int), .int .u16 (m : Int), .slice none 0 0] 26 (0, 0))) := heap_setCell_same w7 w6.heap.size 6 #[.int .u16 (p0 : Int), .int .u16 (p2 : Int), .int .u32 (p4 : Int), .int .u32 (p8 : Int), .int .u8 (p13 : Int), .int .u16 (p14 : Int), .int .u16 0, .slice none 0 0] 26 (.int .u16 (m : Int)) HGY7.out
        have HSv : Hid (w6.heap.size < (w7.setCell ⟨w6.heap.size, 6, none⟩ (.int .u16 (m : Int))).heap.size) := row_lt HGYv.out
        go_wp2_with fail
        generalize (w7.setCell ⟨w6.heap.size, 6, none⟩ (.int .u16 (m : Int))) = wv at HBv HGZv HRv HGYv HSv ⊢
        have hcl := clone_len (some (ad.add hq)) data (n - hq) (c - hq) lo hi wv (HP2.out wv HRv.out) (by rw [HDL.out]; omega) HDL.out
        refine hcl.mono ?_
        clear hcl
        rintro e w8 ⟨A6, c6, rfl, ho8, hb8⟩
        have HB8 : Hid (Below w.heap.size w (w8.setCell ⟨w6.heap.size, 7, none⟩ (.slice A6 (n - hq) c6))) := (HBv.out.trans (hb8.mono HBv.out.size)).setCell (by have := HGW.out; simp only; omega) _
        have hz8 := (hb8.block _ (row_lt HGZv.out)).trans HGZv.out
        have hy8 := (hb8.block _ HSv.out).trans HGYv.out
        have HGZ8 : Hid ((w8.setCell ⟨w6.heap.size, 7, none⟩ (.slice A6 (n - hq) c6)).heap[w.heap.size + 2]? = some (.cells #[.int .u16 0, .int .u16 0, .int .u32 0, .int .u32 0, .int .u8 0, .int .u16 0, .int .u16 0, .slice none 0 0] 26 (0, 0))) := (heap_setCell_other _ _ _ _ (by have := HGW.out; simp only; omega)).trans hz8
        have HGY8 : Hid ((w8.setCell ⟨w6.heap.size, 7, none⟩ (.slice A6 (n - hq) c6)).heap[w6.heap.size]? = some (.cells #[.int .u16 (p0 : Int), .int .u16 (p2 : Int), .int .u32 (p4 : Int), .int .u32 (p8 : Int), .int .u8 (p13 : Int), .int .u16 (p14 : Int), .int .u16 (m : Int), .slice A6 (n - hq) c6] 26 (0, 0))) := heap_setCell_same w8 w6.heap.size 7 #[.int .u16 (p0 : Int), .int .u16 (p2 : Int), .int .u32 (p4 : Int), .int .u32 (p8 : Int), .int .u8 (p13 : Int), .int .u16 (p14 : Int), .int .u16 (m : Int), .slice none 0 0] 26 (.slice A6 (n - hq) c6) hy8
        have k7v := cell_of_row _ _ 7 _ _ _ hy8
        have hf7 := frozen_of_row _ _ 7 _ _ hy8
        have hfr := fresh_own ho8 HDL.out
        have HFR : Hid (Fresh wv.heap.size data (.slice A6 (n - hq) c6) (w8.setCell ⟨w6.heap.size, 7, none⟩ (.slice A6 (n - hq) c6))) := by
          obtain ⟨A', c', q1, q2, q3⟩ := hfr
          simp only [Value.slice.injEq] at q1
          obtain ⟨rfl, q4, rfl⟩ := q1
          exact ⟨A6, c6, by rw [HDL.out], (q2.setCell (.inl HSv.out) _).wide (Nat.le_refl _) (by simp), q3⟩
        clear hb8 hz8 hy8 ho8 hfr k4 k6 k7 hf6
        go_wp2_with (first | refine wpList_load_row rfl 26 _ rfl w6.heap.size rfl 26 #[.int .u16 (p0 : Int), .int .u16 (p2 : Int), .int .u32 (p4 : Int), .int .u32 (p8 : Int), .int .u8 (p13 : Int), .int .u16 (p14 : Int), .int .u16 (m : Int), .slice A6 (n - hq) c6] (0, 0) _ HGY8.out Try.underlying26 rfl (by kernel_rfl) ?_ | refine wpList_store_row rfl 26 _ _ rfl (w.heap.size + 2) #[.int .u16 (p0 : Int), .int .u16 (p2 : Int), .int .u32 (p4 : Int), .int .u32 (p8 : Int), .int .u8 (p13 : Int), .int .u16 (p14 : Int), .int .u16 (m : Int), .slice A6 (n - hq) c6] rfl rfl 26 #[.int .u16 0, .int .u16 0, .int .u32 0, .int .u32 0, .int .u8 0, .int .u16 0, .int .u16 0, .slice none 0 0] HGZ8.out (by kernel_rfl) rfl (by kernel_rfl) ?_)
        (try simp only [Exit.inBlock, Exit.then])
        refine ret_row (g := w.heap.size + 2) (cs := #[.int .u16 (p0 : Int), .int .u16 (p2 : Int), .int .u32 (p4 : Int), .int .u32 (p8 : Int), .int .u8 (p13 : Int), .int .u16 (p14 : Int), .int .u16 (m : Int), .slice A6 (n - hq) c6]) rfl rfl (load_sg (setRow_heap (w8.setCell ⟨w6.heap.size, 7, none⟩ (.slice A6 (n - hq) c6)) _ _ _ _ _ HGZ8.out) rfl) rfl ?_
        rw [HE5.out, HSG.out]
        obtain ⟨A', c', q1, q2, q3, q4, q5⟩ := HFR.out
        simp only [Value.slice.injEq] at q1
        obtain ⟨rfl, -, rfl⟩ := q1
        refine ⟨_, rfl, ⟨A6, c6, ?_, ⟨HOKX.out.1, HOKX.out.2.1, HOKX.out.2.2.1, HOKX.out.2.2.2.1, HOKX.out.2.2.2.2, hm2⟩, (q2.keep fun p hp _ => World.cell?_of_block (setRow_other _ _ _ _ (by have h1 := HGW.out; have h2 := HSv.out; omega))).wide (by have h1 := HGW.out; have h2 := HSv.out; omega) (by simp), q4, q5, q3⟩, below_setRowO HB8.out (by omega) _⟩
        show (#[.int .u16 (p0 : Int), .int .u16 (p2 : Int), .int .u32 (p4 : Int), .int .u32 (p8 : Int), .int .u8 (p13 : Int), .int .u16 (p14 : Int), .int .u16 (m : Int), .slice A6 (n - hq) c6] : Array Value) = #[.int .u16 (p0 : Int), .int .u16 (p2 : Int), .int .u32 (p4 : Int), .int .u32 (p8 : Int), .int .u8 (fl.toNat : Int), .int .u16 (p14 : Int), .int .u16 (m : Int), .slice A6 data.length c6]
        rw [HF8.out, HDL.out]
end Go.Proofs.Ytjgdmkmfnkaoaaa
