/-
  segment.Build: ErrLong of more than 156 bytes of data, ErrArg of what may not be built, else its bytes in a row of the call's own. Every segment that can be read, every two hosts. No condition.
-/
import Derived.Test.YtjgdmkmfnkaoaaaSameS
import Derived.Test.YtjgdmkmfnkaoaaaRelyG
import Derived.Test.YtjgdmkmfnkaoaaaCopy2
namespace Go.Proofs.Ytjgdmkmfnkaoaaa
open Go.RowKit

theorem run_slice_l {P : Program} (t e : TypeId) (size : Nat) (hu : P.underlying t = some (.slice e)) (hi : (P.info? e).map (·.size) = some size) (A : Option Addr) (len cap l : Nat) (h1 : l ≤ len) (w : World) :
    (Instr.slice t (.slice A len cap) (some (.int .i64 (l : Int))) none none).run P w = .ok (.slice (if cap = l then A else A.map (·.add (l * size))) (len - l) (cap - l)) w := by
  cases hie : P.info? e with
  | none => simp [hie] at hi
  | some ie =>
    simp only [hie, Option.map_some, Option.some.injEq] at hi
    simp [Instr.slice, run_underlying hu, Instr.sliceBounds, Instr.sliceBound, asIntOf, sizeOf, typeInfo, hie, hi, h1]
theorem run_sliceE {P : Program} {ev : Operand → Value} {o : Oper} {w : World} (t : TypeId) (x : Operand) (l h : Option Operand) (ho : o.op = .slice t x l h none) {e : TypeId} (hu : P.underlying t = some (.slice e)) {A : Option Addr} {n c : Nat} (hx : ev x = .slice A n c) {v : Value} (hr : (Instr.slice t (.slice A n c) (l.map ev) (h.map ev) none).run P w = .ok v w) : (execOp ev o).run P w = .ok (.value v) w := by
  unfold execOp
  simp [ho, hx, Instr.sliceAt, run_underlying hu, hr]
theorem run_copyE {P : Program} {ev : Operand → Value} {o : Oper} {w w' : World} (x y : Operand) (t1 t2 : TypeId) (ho : o.op = .call { callee := .builtin .copy, args := #[x, y], argTypes := #[t1, t2] }) {a b v : Value} (hx : ev x = a) (hy : ev y = b)
    (hr : (Builtin.copy_ #[t1, t2] o.type #[a, b]).run P w = .ok v w') : (execOp ev o).run P w = .ok (.value v) w' := by
  unfold execOp
  simp only [ho, resolve, invoke, builtin, Sem.run_bind, Sem.run_pure, Result.andThen_ok, List.map_toArray, List.map_cons, List.map_nil, hx, hy, hr]
theorem below_setRow {B : Nat} {w w1 : World} (h : Below B w w1) {g : Nat} (hg : B ≤ g) (cs : Array Value) : Below B w (w1.setRow g cs) :=
  ⟨h.os, h.tape, h.output, by simp [World.setRow]; exact h.size, fun k hk => (setRow_other w1 g k cs (by omega)).trans (h.block k hk)⟩
/-- two slices of bytes in a new row: new bytes, and those of block g5 -/
def TwoP (B g5 m c5 : Nat) (ps : List UInt8) : Pred := fun v w => ∃ g A c, v = .slice (some ⟨g, 0, none⟩) 2 2 ∧ B ≤ g ∧ w.heap[g]? = some (.cells #[.slice A ps.length c, .slice (some ⟨g5, 0, none⟩) m c5] 24 (0, 0)) ∧ Rd w B w.heap.size A (cells ps)
theorem twoP_mono (B g5 m c5 : Nat) (ps : List UInt8) : Mono (TwoP B g5 m c5 ps) := fun _ _ _ hb ⟨g, A, c, h1, h2, h3, h4⟩ => ⟨g, A, c, h1, h2, (hb.block g (row_lt h3)).trans h3, (h4.below hb (Nat.le_refl _)).wide (Nat.le_refl _) hb.size⟩
theorem twoP_st {B g5 m c5 : Nat} (hg : g5 < B) (ps : List UInt8) : Stable g5 (TwoP B g5 m c5 ps) := fun _ _ _ hb ⟨g, A, c, h1, h2, h3, h4⟩ => ⟨g, A, c, h1, h2, (hb.block g (row_lt h3) (by omega)).trans h3, (h4.keep fun p hp hq => World.cell?_of_block (hb.block p.block hq (by omega))).wide (Nat.le_refl _) hb.size⟩

set_option maxRecDepth 100000 in
set_option maxHeartbeats 400000 in
theorem sbuild_long (cs : Array Value) (x : Sg) (s0 s1 s2 s3 d0 d1 d2 d3 : UInt8) (lo hi : Nat) (w : World) (h : SgC w lo hi cs x) (hl : 156 < x.data.length) :
    Calls Try.prog 11 #[.agg cs, .agg #[.int .u8 (s0.toNat : Int), .int .u8 (s1.toNat : Int), .int .u8 (s2.toNat : Int), .int .u8 (s3.toNat : Int)], .agg #[.int .u8 (d0.toNat : Int), .int .u8 (d1.toNat : Int), .int .u8 (d2.toNat : Int), .int .u8 (d3.toNat : Int)]] w (OwnPost w ([], 4)) := by
  obtain ⟨A, c, rfl, hok, hrd, hlc, hcm, hA⟩ := h
  obtain ⟨w1, hw1⟩ : ∃ w1, ((w.alloc (.cells #[.int .u16 (x.src : Int), .int .u16 (x.dst : Int), .int .u32 (x.seq : Int), .int .u32 (x.ack : Int), .int .u8 (x.flags.toNat : Int), .int .u16 (x.wnd : Int), .int .u16 (x.mss : Int), .slice A x.data.length c] 26)).alloc (.cells #[.int .u8 (s0.toNat : Int), .int .u8 (s1.toNat : Int), .int .u8 (s2.toNat : Int), .int .u8 (s3.toNat : Int)] 28)).alloc (.cells #[.int .u8 (d0.toNat : Int), .int .u8 (d1.toNat : Int), .int .u8 (d2.toNat : Int), .int .u8 (d3.toNat : Int)] 28) = w1 := ⟨_, rfl⟩
  have HB1 : Hid (Below w.heap.size w w1) := by show Below _ _ _; rw [← hw1]; exact (((Below.refl _ _).alloc (Nat.le_refl _) _).alloc (by simp) _).alloc (by simp; omega) _
  have hg1 : w1.heap[w.heap.size]? = some (.cells #[.int .u16 (x.src : Int), .int .u16 (x.dst : Int), .int .u32 (x.seq : Int), .int .u32 (x.ack : Int), .int .u8 (x.flags.toNat : Int), .int .u16 (x.wnd : Int), .int .u16 (x.mss : Int), .slice A x.data.length c] 26 (0, 0)) := by rw [← hw1]; exact old_alloc (old_alloc (heap_alloc_new w _) _) _
  have k7 : w1.cell? ⟨w.heap.size, 7, none⟩ = some (.slice A x.data.length c) := cell_of_row _ _ 7 _ _ _ hg1
  generalize x.data.length = n at *
  unfold maxLen at hcm
  go_enter Try.func11, Try.ntmps11
  go_wp2
  go_ret2
  exact own_none rfl HB1.out
set_option maxRecDepth 100000 in
set_option maxHeartbeats 1000000 in
theorem sbuild_arg (cs : Array Value) (x : Sg) (s0 s1 s2 s3 d0 d1 d2 d3 : UInt8) (lo hi : Nat) (w : World) (h : SgC w lo hi cs x) (hl : ¬ 156 < x.data.length) (hm : ¬ x.may) :
    Calls Try.prog 11 #[.agg cs, .agg #[.int .u8 (s0.toNat : Int), .int .u8 (s1.toNat : Int), .int .u8 (s2.toNat : Int), .int .u8 (s3.toNat : Int)], .agg #[.int .u8 (d0.toNat : Int), .int .u8 (d1.toNat : Int), .int .u8 (d2.toNat : Int), .int .u8 (d3.toNat : Int)]] w (OwnPost w ([], 1)) := by
  obtain ⟨A, c, rfl, hok, hrd, hlc, hcm, hA⟩ := h
  obtain ⟨w1, hw1⟩ : ∃ w1, ((w.alloc (.cells #[.int .u16 (x.src : Int), .int .u16 (x.dst : Int), .int .u32 (x.seq : Int), .int .u32 (x.ack : Int), .int .u8 (x.flags.toNat : Int), .int .u16 (x.wnd : Int), .int .u16 (x.mss : Int), .slice A x.data.length c] 26)).alloc (.cells #[.int .u8 (s0.toNat : Int), .int .u8 (s1.toNat : Int), .int .u8 (s2.toNat : Int), .int .u8 (s3.toNat : Int)] 28)).alloc (.cells #[.int .u8 (d0.toNat : Int), .int .u8 (d1.toNat : Int), .int .u8 (d2.toNat : Int), .int .u8 (d3.toNat : Int)] 28) = w1 := ⟨_, rfl⟩
  have HB1 : Hid (Below w.heap.size w w1) := by show Below _ _ _; rw [← hw1]; exact (((Below.refl _ _).alloc (Nat.le_refl _) _).alloc (by simp) _).alloc (by simp; omega) _
  have hg1 : w1.heap[w.heap.size]? = some (.cells #[.int .u16 (x.src : Int), .int .u16 (x.dst : Int), .int .u32 (x.seq : Int), .int .u32 (x.ack : Int), .int .u8 (x.flags.toNat : Int), .int .u16 (x.wnd : Int), .int .u16 (x.mss : Int), .slice A x.data.length c] 26 (0, 0)) := by rw [← hw1]; exact old_alloc (old_alloc (heap_alloc_new w _) _) _
  have hfl := x.flags.toNat_lt
  have hcase : 31 < x.flags.toNat ∨ (x.flags.toNat ≤ 31 ∧ x.mss ≠ 0 ∧ x.flags.toNat / 2 % 2 = 0) := by
    unfold Sg.may at hm
    by_cases h1 : 31 < x.flags.toNat
    · exact .inl h1
    · refine .inr ⟨by omega, fun h0 => hm ⟨by omega, fun h => absurd h0 h⟩, ?_⟩
      apply Decidable.byContradiction
      intro h2
      exact hm ⟨by omega, fun _ => by omega⟩
  have k7 : w1.cell? ⟨w.heap.size, 7, none⟩ = some (.slice A x.data.length c) := cell_of_row _ _ 7 _ _ _ hg1
  have k4 : w1.cell? ⟨w.heap.size, 4, none⟩ = some (.int .u8 (x.flags.toNat : Int)) := cell_of_row _ _ 4 _ _ _ hg1
  have k6 : w1.cell? ⟨w.heap.size, 6, none⟩ = some (.int .u16 (x.mss : Int)) := cell_of_row _ _ 6 _ _ _ hg1
  generalize x.data.length = n at *
  generalize x.flags.toNat = y at *
  generalize x.mss = ms at *
  have a2 := and_2 y (by omega)
  unfold maxLen at hcm
  clear hm hrd hok
  rcases hcase with h1 | ⟨h1, h2, h3⟩
  · go_enter Try.func11, Try.ntmps11
    go_wp2
    go_ret2
    exact own_none rfl HB1.out
  · have q1 := bneT (show (ms : Int) ≠ 0 by omega)
    rw [h3] at a2
    go_enter Try.func11, Try.ntmps11
    go_wp2
    go_ret2
    exact own_none rfl HB1.out
set_option maxRecDepth 100000 in
set_option maxHeartbeats 4000000 in
theorem sbuild_fits (cs : Array Value) (x : Sg) (s0 s1 s2 s3 d0 d1 d2 d3 : UInt8) (lo hi : Nat) (w : World) (h : SgC w lo hi cs x) (hhi : hi ≤ w.heap.size) (hl : ¬ 156 < x.data.length) (hm : x.may) :
    Calls Try.prog 11 #[.agg cs, .agg #[.int .u8 (s0.toNat : Int), .int .u8 (s1.toNat : Int), .int .u8 (s2.toNat : Int), .int .u8 (s3.toNat : Int)], .agg #[.int .u8 (d0.toNat : Int), .int .u8 (d1.toNat : Int), .int .u8 (d2.toNat : Int), .int .u8 (d3.toNat : Int)]] w (OwnPost w (x.bytes [s0, s1, s2, s3] [d0, d1, d2, d3], 0)) := by
  obtain ⟨A, c, rfl, hok, hrd, hlc, hcm, hA⟩ := h
  obtain ⟨w1, hw1⟩ : ∃ w1, ((w.alloc (.cells #[.int .u16 (x.src : Int), .int .u16 (x.dst : Int), .int .u32 (x.seq : Int), .int .u32 (x.ack : Int), .int .u8 (x.flags.toNat : Int), .int .u16 (x.wnd : Int), .int .u16 (x.mss : Int), .slice A x.data.length c] 26)).alloc (.cells #[.int .u8 (s0.toNat : Int), .int .u8 (s1.toNat : Int), .int .u8 (s2.toNat : Int), .int .u8 (s3.toNat : Int)] 28)).alloc (.cells #[.int .u8 (d0.toNat : Int), .int .u8 (d1.toNat : Int), .int .u8 (d2.toNat : Int), .int .u8 (d3.toNat : Int)] 28) = w1 := ⟨_, rfl⟩
  have HB1 : Hid (Below w.heap.size w w1) := by show Below _ _ _; rw [← hw1]; exact (((Below.refl _ _).alloc (Nat.le_refl _) _).alloc (by simp) _).alloc (by simp; omega) _
  have hg1 : w1.heap[w.heap.size]? = some (.cells #[.int .u16 (x.src : Int), .int .u16 (x.dst : Int), .int .u32 (x.seq : Int), .int .u32 (x.ack : Int), .int .u8 (x.flags.toNat : Int), .int .u16 (x.wnd : Int), .int .u16 (x.mss : Int), .slice A x.data.length c] 26 (0, 0)) := by rw [← hw1]; exact old_alloc (old_alloc (heap_alloc_new w _) _) _
  have hgs : w1.heap[w.heap.size + 1]? = some (.cells #[.int .u8 (s0.toNat : Int), .int .u8 (s1.toNat : Int), .int .u8 (s2.toNat : Int), .int .u8 (s3.toNat : Int)] 28 (0, 0)) := by
    have := heap_alloc_new (w.alloc (.cells #[.int .u16 (x.src : Int), .int .u16 (x.dst : Int), .int .u32 (x.seq : Int), .int .u32 (x.ack : Int), .int .u8 (x.flags.toNat : Int), .int .u16 (x.wnd : Int), .int .u16 (x.mss : Int), .slice A x.data.length c] 26)) (.cells #[.int .u8 (s0.toNat : Int), .int .u8 (s1.toNat : Int), .int .u8 (s2.toNat : Int), .int .u8 (s3.toNat : Int)] 28)
    rw [World.size_alloc] at this
    rw [← hw1]
    exact old_alloc this _
  have hgd : w1.heap[w.heap.size + 2]? = some (.cells #[.int .u8 (d0.toNat : Int), .int .u8 (d1.toNat : Int), .int .u8 (d2.toNat : Int), .int .u8 (d3.toNat : Int)] 28 (0, 0)) := by
    have := heap_alloc_new ((w.alloc (.cells #[.int .u16 (x.src : Int), .int .u16 (x.dst : Int), .int .u32 (x.seq : Int), .int .u32 (x.ack : Int), .int .u8 (x.flags.toNat : Int), .int .u16 (x.wnd : Int), .int .u16 (x.mss : Int), .slice A x.data.length c] 26)).alloc (.cells #[.int .u8 (s0.toNat : Int), .int .u8 (s1.toNat : Int), .int .u8 (s2.toNat : Int), .int .u8 (s3.toNat : Int)] 28)) (.cells #[.int .u8 (d0.toNat : Int), .int .u8 (d1.toNat : Int), .int .u8 (d2.toNat : Int), .int .u8 (d3.toNat : Int)] 28)
    rw [World.size_alloc, World.size_alloc] at this
    rw [← hw1]
    exact this
  have HRD := Lib.hid (hrd.below (B := w.heap.size) HB1.out hhi)
  have HHI := Lib.hid hhi
  have HAN := Lib.hid hA
  have hfl := x.flags.toNat_lt
  have HBL0 := sg_length [s0, s1, s2, s3] [d0, d1, d2, d3] x
  have HSZ : Hid (x.size = 20 + (optL x.mss).length + x.data.length) := rfl
  have HFR : Hid (x.front = two x.src ++ two x.dst ++ four x.seq ++ four x.ack ++ [wordsL x.mss, x.flags] ++ two x.wnd) := rfl
  have HBK : Hid (x.back = two 0 ++ optL x.mss ++ x.data) := rfl
  have HBY : Hid (x.bytes [s0, s1, s2, s3] [d0, d1, d2, d3] = x.front ++ two (sgSum [s0, s1, s2, s3] [d0, d1, d2, d3] x) ++ x.back) := rfl
  have HBA : Hid (sgBare [s0, s1, s2, s3] [d0, d1, d2, d3] x = pseudoT [s0, s1, s2, s3] [d0, d1, d2, d3] x.size ++ (x.front ++ two 0 ++ x.back)) := rfl
  have HSU : Hid (sgSum [s0, s1, s2, s3] [d0, d1, d2, d3] x = 65535 - sumL (sgBare [s0, s1, s2, s3] [d0, d1, d2, d3] x)) := rfl
  have HFL16 : Hid (x.front.length = 16) := front_len x
  obtain ⟨ho1, ho2, ho3, ho4, ho5, ho6⟩ := hok
  obtain ⟨hm1, hm2⟩ := hm
  generalize sgSum [s0, s1, s2, s3] [d0, d1, d2, d3] x = S at HBY HSU
  generalize x.bytes [s0, s1, s2, s3] [d0, d1, d2, d3] = bs at HBY HBL0 ⊢
  generalize sgBare [s0, s1, s2, s3] [d0, d1, d2, d3] x = ba at HBA HSU
  generalize x.size = m at HSZ HBL0 HBA
  obtain ⟨front, hfr⟩ : ∃ f, x.front = f := ⟨_, rfl⟩
  rw [hfr] at HFR HBY HBA HFL16
  clear hfr
  obtain ⟨back, hbk⟩ : ∃ f, x.back = f := ⟨_, rfl⟩
  rw [hbk] at HBK HBY HBA
  clear hbk
  obtain ⟨src, dst, seq, ack, flags, wnd, mss, data⟩ := x
  simp only at *
  have HO1 := Lib.hid ho1
  have HO2 := Lib.hid ho2
  have HO3 := Lib.hid ho3
  have HO4 := Lib.hid ho4
  have HO5 := Lib.hid ho5
  have HO6 := Lib.hid ho6
  obtain ⟨n, hn⟩ : ∃ n, data.length = n := ⟨_, rfl⟩
  rw [hn] at hl hlc hg1 HSZ hw1 ⊢
  have HN := Lib.hid hn
  have HBLEN := Lib.hid HBL0
  have K0 : Hid (∀ w', Below w1.heap.size w1 w' → w'.cell? ⟨w.heap.size, 0, none⟩ = some (.int .u16 (src : Int))) := fun w' hg => cell_of_row _ _ 0 _ _ _ ((hg.block _ (row_lt hg1)).trans hg1)
  have K1 : Hid (∀ w', Below w1.heap.size w1 w' → w'.cell? ⟨w.heap.size, 1, none⟩ = some (.int .u16 (dst : Int))) := fun w' hg => cell_of_row _ _ 1 _ _ _ ((hg.block _ (row_lt hg1)).trans hg1)
  have K2 : Hid (∀ w', Below w1.heap.size w1 w' → w'.cell? ⟨w.heap.size, 2, none⟩ = some (.int .u32 (seq : Int))) := fun w' hg => cell_of_row _ _ 2 _ _ _ ((hg.block _ (row_lt hg1)).trans hg1)
  have K3 : Hid (∀ w', Below w1.heap.size w1 w' → w'.cell? ⟨w.heap.size, 3, none⟩ = some (.int .u32 (ack : Int))) := fun w' hg => cell_of_row _ _ 3 _ _ _ ((hg.block _ (row_lt hg1)).trans hg1)
  have K4 : Hid (∀ w', Below w1.heap.size w1 w' → w'.cell? ⟨w.heap.size, 4, none⟩ = some (.int .u8 (flags.toNat : Int))) := fun w' hg => cell_of_row _ _ 4 _ _ _ ((hg.block _ (row_lt hg1)).trans hg1)
  have K5 : Hid (∀ w', Below w1.heap.size w1 w' → w'.cell? ⟨w.heap.size, 5, none⟩ = some (.int .u16 (wnd : Int))) := fun w' hg => cell_of_row _ _ 5 _ _ _ ((hg.block _ (row_lt hg1)).trans hg1)
  have K6 : Hid (∀ w', Below w1.heap.size w1 w' → w'.cell? ⟨w.heap.size, 6, none⟩ = some (.int .u16 (mss : Int))) := fun w' hg => cell_of_row _ _ 6 _ _ _ ((hg.block _ (row_lt hg1)).trans hg1)
  have K7 : Hid (∀ w', Below w1.heap.size w1 w' → w'.cell? ⟨w.heap.size, 7, none⟩ = some (.slice A n c)) := fun w' hg => cell_of_row _ _ 7 _ _ _ ((hg.block _ (row_lt hg1)).trans hg1)
  have HGS := Lib.hid hgs
  have HGD := Lib.hid hgd
  have HW1 : Hid (w.heap.size + 2 < w1.heap.size) := row_lt hgd
  have HG1 := Lib.hid hg1
  have k7 := K7.out w1 (Below.refl _ _)
  have k4 := K4.out w1 (Below.refl _ _)
  have k6 := K6.out w1 (Below.refl _ _)
  have a2 := and_2 flags.toNat (by omega)
  unfold maxLen at hcm
  clear hgs hgd hg1 HBL0 hn ho1 ho2 ho3 ho4 ho5 ho6 hrd hhi hA
  by_cases h0 : mss = 0
  · have HOL : Hid ((optL mss).length = 0) := by show _ = _; rw [h0]; rfl
    have HWD : Hid (wordsL mss = 80) := by show _ = _; rw [h0]; rfl
    have q0 := bneF (show (mss : Int) = 0 by omega)
    clear h0 hm2
    go_enter Try.func11, Try.ntmps11
    go_wp2_with fail
    try rw [hw1]
    refine (sopts_any mss w1 HO6.out).mono ?_
    rintro e w2 ⟨v2, rfl, ⟨A8, c8, rfl, hr8, hA8, hl8, hc8⟩, hb2⟩
    rw [HOL.out] at hl8 ⊢
    have HBW := Lib.hid hb2
    have HB2 : Hid (Below w.heap.size w w2) := HB1.out.trans (hb2.mono HB1.out.size)
    have HAO := Lib.hid hA8
    have HR8 := Lib.hid hr8
    have HRB : Hid (∀ w', Gro (fun _ => False) w2 w' → Rd w' 0 w'.heap.size A (cells data)) := fun w' hg => (HRD.out.below ((HBW.out.mono (Nat.le_trans HB1.out.size (Nat.le_refl _))).trans (hg.belowF.mono (Nat.le_trans HB1.out.size HBW.out.size))) (by have := HHI.out; have := HB1.out.size; omega)).wide (Nat.zero_le _) (by have := HHI.out; have := HB2.out.size; have := hg.size; omega)
    have HRO : Hid (∀ w', Gro (fun _ => False) w2 w' → Rd w' 0 w'.heap.size A8 (cells (optL mss))) := fun w' hg => (HR8.out.below hg.belowF (Nat.le_refl _)).wide (Nat.zero_le _) hg.size
    obtain ⟨b0, hb0⟩ : ∃ b0, front ++ two 0 ++ back = b0 := ⟨_, rfl⟩
    rw [hb0] at HBA
    have HB10 : Hid (b0 = front ++ (two 0 ++ back)) := by show _ = _; rw [← hb0, List.append_assoc]
    have HLB : Hid (b0.length = m) := by show _ = _; rw [HB10.out, HSZ.out]; simp [two_length, HFL16.out, HBK.out, HN.out]; omega
    have hm1000 : m ≤ 1000 := by rw [HSZ.out, HOL.out]; omega
    have hm20 : 20 ≤ m := by rw [HSZ.out]; omega
    have HBL : Hid (b0.length ≤ 1000000000) := by show _ ≤ _; rw [HLB.out]; omega
    have HFL : Hid ([two src, two dst, four seq, four ack, [80, flags], two wnd, two 0, two 0, optL mss, data].flatten = b0) := by show _ = _; rw [HB10.out, HFR.out, HBK.out, HWD.out]; simp
    clear hb2 hr8 hA8 hb0 k7 k4 k6 a2
    go_upto_region 7 with (fail)
    apply wp_region_rely (fun _ => False) (RL [Is _, Is _, Fresh w2.heap.size (two src), Is _, Is _, Fresh w2.heap.size (two dst), Is _, Is _, Fresh w2.heap.size (four seq), Is _, Is _, Fresh w2.heap.size (four ack), Is _, Is _, Is _, Is _, Fresh w2.heap.size [80, flags], Is _, Is _, Fresh w2.heap.size (two wnd), Fresh w2.heap.size (two 0), Fresh w2.heap.size (two 0), Is _, Is _, Is _, Lists [two src, two dst, four seq, four ack, [80, flags], two wnd, two 0, two 0, optL mss, data], Owned w2.heap.size b0, Owned w2.heap.size b0]) [false, false, false, false, false, false, false, false, false, false, true, false, false, false, false, false, false, false, false, false, false, false, false, false, false, false, false, false, false, false, false, false, false, false, false, false, false, true, true, true, true, true, true, true, true, true, true, true, true, true, true, true, true, true, true, true, true, true, true, true, true, true, true, true, false, false, false, false, false, false, false, false, false, false, false, false]
    · kernel_rfl
    · kernel_rfl
    · kernel_rfl
    · refine ⟨?_, ?_, ?_, ?_, ?_, ?_, ?_, ?_, ?_, ?_, ?_, ?_, ?_, ?_, ?_, ?_, ?_, ?_, ?_, ?_, ?_, ?_, ?_, ?_, ?_, ?_, ?_, ?_, trivial⟩
      · intro ev w' hC hc hf hb hr K hK
        have e3 : ev (.tmp 3) = _ := hb 3 (by kernel_rfl)
        have HK := Lib.hid hK
        have HC := Lib.hid hC
        clear hb hr hK hC hf
        unfold Run
        simp [execOp, Upon, go_sem, *]
        exact HK.out _ _ (.inl (Below.refl _ _)) rfl
      · intro ev w' hC hc hf hb hr K hK
        have e37 := hr 0 _ rfl (by kernel_rfl)
        change ev (.tmp 37) = _ at e37
        have HK := Lib.hid hK
        have HC := Lib.hid hC
        clear hb hr hK hC hf
        have k0' := K0.out w' (HBW.out.trans (HC.out.belowF.mono HBW.out.size))
        unfold Run
        simp [execOp, Upon, go_sem, *]
        exact HK.out _ _ (.inl (Below.refl _ _)) rfl
      · intro ev w' hC hc hf hb hr K hK
        have e38 := hr 1 _ rfl (by kernel_rfl)
        change ev (.tmp 38) = _ at e38
        have HK := Lib.hid hK
        have HC := Lib.hid hC
        clear hb hr hK hC
        unfold Run
        simp [execOp, Upon, go_sem, *]
        refine (spair_any src _ HO1.out).mono ?_
        rintro e w3 ⟨v, rfl, hf, hb⟩
        exact ⟨v, rfl, HK.out _ _ (.inl hb) (hf.wide HC.out.size)⟩
      · intro ev w' hC hc hf hb hr K hK
        have e3 : ev (.tmp 3) = _ := hb 3 (by kernel_rfl)
        have HK := Lib.hid hK
        have HC := Lib.hid hC
        clear hb hr hK hC hf
        unfold Run
        simp [execOp, Upon, go_sem, *]
        exact HK.out _ _ (.inl (Below.refl _ _)) rfl
      · intro ev w' hC hc hf hb hr K hK
        have e40 := hr 3 _ rfl (by kernel_rfl)
        change ev (.tmp 40) = _ at e40
        have HK := Lib.hid hK
        have HC := Lib.hid hC
        clear hb hr hK hC hf
        have k1' := K1.out w' (HBW.out.trans (HC.out.belowF.mono HBW.out.size))
        unfold Run
        simp [execOp, Upon, go_sem, *]
        exact HK.out _ _ (.inl (Below.refl _ _)) rfl
      · intro ev w' hC hc hf hb hr K hK
        have e41 := hr 4 _ rfl (by kernel_rfl)
        change ev (.tmp 41) = _ at e41
        have HK := Lib.hid hK
        have HC := Lib.hid hC
        clear hb hr hK hC
        unfold Run
        simp [execOp, Upon, go_sem, *]
        refine (spair_any dst _ HO2.out).mono ?_
        rintro e w3 ⟨v, rfl, hf, hb⟩
        exact ⟨v, rfl, HK.out _ _ (.inl hb) (hf.wide HC.out.size)⟩
      · intro ev w' hC hc hf hb hr K hK
        have e3 : ev (.tmp 3) = _ := hb 3 (by kernel_rfl)
        have HK := Lib.hid hK
        have HC := Lib.hid hC
        clear hb hr hK hC hf
        unfold Run
        simp [execOp, Upon, go_sem, *]
        exact HK.out _ _ (.inl (Below.refl _ _)) rfl
      · intro ev w' hC hc hf hb hr K hK
        have e43 := hr 6 _ rfl (by kernel_rfl)
        change ev (.tmp 43) = _ at e43
        have HK := Lib.hid hK
        have HC := Lib.hid hC
        clear hb hr hK hC hf
        have k2' := K2.out w' (HBW.out.trans (HC.out.belowF.mono HBW.out.size))
        unfold Run
        simp [execOp, Upon, go_sem, *]
        exact HK.out _ _ (.inl (Below.refl _ _)) rfl
      · intro ev w' hC hc hf hb hr K hK
        have e44 := hr 7 _ rfl (by kernel_rfl)
        change ev (.tmp 44) = _ at e44
        have HK := Lib.hid hK
        have HC := Lib.hid hC
        clear hb hr hK hC
        unfold Run
        simp [execOp, Upon, go_sem, *]
        refine (sfour_any seq _ HO3.out).mono ?_
        rintro e w3 ⟨v, rfl, hf, hb⟩
        exact ⟨v, rfl, HK.out _ _ (.inl hb) (hf.wide HC.out.size)⟩
      · intro ev w' hC hc hf hb hr K hK
        have e3 : ev (.tmp 3) = _ := hb 3 (by kernel_rfl)
        have HK := Lib.hid hK
        have HC := Lib.hid hC
        clear hb hr hK hC hf
        unfold Run
        simp [execOp, Upon, go_sem, *]
        exact HK.out _ _ (.inl (Below.refl _ _)) rfl
      · intro ev w' hC hc hf hb hr K hK
        have e46 := hr 9 _ rfl (by kernel_rfl)
        change ev (.tmp 46) = _ at e46
        have HK := Lib.hid hK
        have HC := Lib.hid hC
        clear hb hr hK hC hf
        have k3' := K3.out w' (HBW.out.trans (HC.out.belowF.mono HBW.out.size))
        unfold Run
        simp [execOp, Upon, go_sem, *]
        exact HK.out _ _ (.inl (Below.refl _ _)) rfl
      · intro ev w' hC hc hf hb hr K hK
        have e47 := hr 10 _ rfl (by kernel_rfl)
        change ev (.tmp 47) = _ at e47
        have HK := Lib.hid hK
        have HC := Lib.hid hC
        clear hb hr hK hC
        unfold Run
        simp [execOp, Upon, go_sem, *]
        refine (sfour_any ack _ HO4.out).mono ?_
        rintro e w3 ⟨v, rfl, hf, hb⟩
        exact ⟨v, rfl, HK.out _ _ (.inl hb) (hf.wide HC.out.size)⟩
      · intro ev w' hC hc hf hb hr K hK
        have e9 : ev (.tmp 9) = _ := hb 9 (by kernel_rfl)
        have HK := Lib.hid hK
        have HC := Lib.hid hC
        clear hb hr hK hC hf
        unfold Run
        simp [execOp, Upon, go_sem, *]
        exact HK.out _ _ (.inl (Below.refl _ _)) rfl
      · intro ev w' hC hc hf hb hr K hK
        have e49 := hr 12 _ rfl (by kernel_rfl)
        change ev (.tmp 49) = _ at e49
        have HK := Lib.hid hK
        have HC := Lib.hid hC
        clear hb hr hK hC hf
        unfold Run
        simp [execOp, Upon, go_sem, *]
        exact HK.out _ _ (.inl (Below.refl _ _)) rfl
      · intro ev w' hC hc hf hb hr K hK
        have e3 : ev (.tmp 3) = _ := hb 3 (by kernel_rfl)
        have HK := Lib.hid hK
        have HC := Lib.hid hC
        clear hb hr hK hC hf
        unfold Run
        simp [execOp, Upon, go_sem, *]
        exact HK.out _ _ (.inl (Below.refl _ _)) rfl
      · intro ev w' hC hc hf hb hr K hK
        have e51 := hr 14 _ rfl (by kernel_rfl)
        change ev (.tmp 51) = _ at e51
        have HK := Lib.hid hK
        have HC := Lib.hid hC
        clear hb hr hK hC hf
        have k4' := K4.out w' (HBW.out.trans (HC.out.belowF.mono HBW.out.size))
        unfold Run
        simp [execOp, Upon, go_sem, *]
        exact HK.out _ _ (.inl (Below.refl _ _)) rfl
      · intro ev w' hC hc hf hb hr K hK
        have e50 := hr 13 _ rfl (by kernel_rfl)
        have e52 := hr 15 _ rfl (by kernel_rfl)
        change ev (.tmp 50) = _ at e50
        change ev (.tmp 52) = _ at e52
        have HK := Lib.hid hK
        have HC := Lib.hid hC
        clear hb hr hK hC hf
        unfold Run
        simp [execOp, Upon, go_sem, *]
        exact HK.out _ _ (.inl ((Below.refl _ _).alloc (Nat.le_refl _) _)) ⟨some ⟨w'.heap.size, 0, none⟩, 2, rfl, by rw [World.size_alloc]; exact (rd_new w' (cells [80, flags]) 5 (0, 0)).wide HC.out.size (Nat.le_refl _), (fun h => by cases h), Nat.le_refl _, (by unfold maxLen; simp)⟩
      · intro ev w' hC hc hf hb hr K hK
        have e3 : ev (.tmp 3) = _ := hb 3 (by kernel_rfl)
        have HK := Lib.hid hK
        have HC := Lib.hid hC
        clear hb hr hK hC hf
        unfold Run
        simp [execOp, Upon, go_sem, *]
        exact HK.out _ _ (.inl (Below.refl _ _)) rfl
      · intro ev w' hC hc hf hb hr K hK
        have e54 := hr 17 _ rfl (by kernel_rfl)
        change ev (.tmp 54) = _ at e54
        have HK := Lib.hid hK
        have HC := Lib.hid hC
        clear hb hr hK hC hf
        have k5' := K5.out w' (HBW.out.trans (HC.out.belowF.mono HBW.out.size))
        unfold Run
        simp [execOp, Upon, go_sem, *]
        exact HK.out _ _ (.inl (Below.refl _ _)) rfl
      · intro ev w' hC hc hf hb hr K hK
        have e55 := hr 18 _ rfl (by kernel_rfl)
        change ev (.tmp 55) = _ at e55
        have HK := Lib.hid hK
        have HC := Lib.hid hC
        clear hb hr hK hC
        unfold Run
        simp [execOp, Upon, go_sem, *]
        refine (spair_any wnd _ HO5.out).mono ?_
        rintro e w3 ⟨v, rfl, hf, hb⟩
        exact ⟨v, rfl, HK.out _ _ (.inl hb) (hf.wide HC.out.size)⟩
      · intro ev w' hC hc hf hb hr K hK
        have HK := Lib.hid hK
        have HC := Lib.hid hC
        clear hb hr hK hC
        unfold Run
        simp [execOp, Upon, go_sem, *]
        refine (spair_any 0 _ (by decide)).mono ?_
        rintro e w3 ⟨v, rfl, hf, hb⟩
        exact ⟨v, rfl, HK.out _ _ (.inl hb) (hf.wide HC.out.size)⟩
      · intro ev w' hC hc hf hb hr K hK
        have HK := Lib.hid hK
        have HC := Lib.hid hC
        clear hb hr hK hC
        unfold Run
        simp [execOp, Upon, go_sem, *]
        refine (spair_any 0 _ (by decide)).mono ?_
        rintro e w3 ⟨v, rfl, hf, hb⟩
        exact ⟨v, rfl, HK.out _ _ (.inl hb) (hf.wide HC.out.size)⟩
      · intro ev w' hC hc hf hb hr K hK
        have e8 : ev (.tmp 8) = _ := hb 8 (by kernel_rfl)
        have HK := Lib.hid hK
        have HC := Lib.hid hC
        clear hb hr hK hC hf
        unfold Run
        simp [execOp, Upon, go_sem, *]
        exact HK.out _ _ (.inl (Below.refl _ _)) rfl
      · intro ev w' hC hc hf hb hr K hK
        have e3 : ev (.tmp 3) = _ := hb 3 (by kernel_rfl)
        have HK := Lib.hid hK
        have HC := Lib.hid hC
        clear hb hr hK hC hf
        unfold Run
        simp [execOp, Upon, go_sem, *]
        exact HK.out _ _ (.inl (Below.refl _ _)) rfl
      · intro ev w' hC hc hf hb hr K hK
        have e60 := hr 23 _ rfl (by kernel_rfl)
        change ev (.tmp 60) = _ at e60
        have HK := Lib.hid hK
        have HC := Lib.hid hC
        clear hb hr hK hC hf
        have k7' := K7.out w' (HBW.out.trans (HC.out.belowF.mono HBW.out.size))
        unfold Run
        simp [execOp, Upon, go_sem, *]
        exact HK.out _ _ (.inl (Below.refl _ _)) rfl
      · intro ev w' hC hc hf hb hr K hK
        have e39 := hr 2 _ rfl (by kernel_rfl)
        have e42 := hr 5 _ rfl (by kernel_rfl)
        have e45 := hr 8 _ rfl (by kernel_rfl)
        have e48 := hr 11 _ rfl (by kernel_rfl)
        have e53 := hr 16 _ rfl (by kernel_rfl)
        have e56 := hr 19 _ rfl (by kernel_rfl)
        have e57 := hr 20 _ rfl (by kernel_rfl)
        have e58 := hr 21 _ rfl (by kernel_rfl)
        have e59 := hr 22 _ rfl (by kernel_rfl)
        have e61 := hr 24 _ rfl (by kernel_rfl)
        change (Fresh w2.heap.size (two src) : Pred) (ev (.tmp 39)) _ at e39
        change (Fresh w2.heap.size (two dst) : Pred) (ev (.tmp 42)) _ at e42
        change (Fresh w2.heap.size (four seq) : Pred) (ev (.tmp 45)) _ at e45
        change (Fresh w2.heap.size (four ack) : Pred) (ev (.tmp 48)) _ at e48
        change (Fresh w2.heap.size [80, flags] : Pred) (ev (.tmp 53)) _ at e53
        change (Fresh w2.heap.size (two wnd) : Pred) (ev (.tmp 56)) _ at e56
        change (Fresh w2.heap.size (two 0) : Pred) (ev (.tmp 57)) _ at e57
        change (Fresh w2.heap.size (two 0) : Pred) (ev (.tmp 58)) _ at e58
        change ev (.tmp 59) = _ at e59
        change ev (.tmp 61) = _ at e61
        have HK := Lib.hid hK
        have HC := Lib.hid hC
        clear hb hr hK hC hf
        obtain ⟨A39, c39, q39, r39, z39, _⟩ := e39
        obtain ⟨A42, c42, q42, r42, z42, _⟩ := e42
        obtain ⟨A45, c45, q45, r45, z45, _⟩ := e45
        obtain ⟨A48, c48, q48, r48, z48, _⟩ := e48
        obtain ⟨A53, c53, q53, r53, z53, _⟩ := e53
        obtain ⟨A56, c56, q56, r56, z56, _⟩ := e56
        obtain ⟨A57, c57, q57, r57, z57, _⟩ := e57
        obtain ⟨A58, c58, q58, r58, z58, _⟩ := e58
        have HDA := Lib.hid (HRB.out w' HC.out)
        have HOA := Lib.hid (HRO.out w' HC.out)
        have hb0 : Bits w' 0 w'.heap.size [.slice A8 0 c8, .slice A n c] [optL mss, data] := by
          have h1 := Bits.cons (lo := 0) (hi := w'.heap.size) HDA.out HAN.out (Bits.nil (w := w'))
          rw [HN.out] at h1
          have h2 := Bits.cons (lo := 0) (hi := w'.heap.size) HOA.out HAO.out h1
          rwa [HOL.out] at h2
        have hb3 := (fresh_bits r39 z39 (fresh_bits r42 z42 (fresh_bits r45 z45 (fresh_bits r48 z48 (fresh_bits r53 z53 (fresh_bits r56 z56 (fresh_bits r57 z57 (fresh_bits r58 z58 hb0))))))))
        have HBI := Lib.hid hb3
        clear hb0 hb3 r39 z39 r42 z42 r45 z45 r48 z48 r53 z53 r56 z56 r57 z57 r58 z58
        simp only [two_length, four_length, List.length_cons, List.length_nil, Nat.zero_add] at q39 q42 q45 q48 q53 q56 q57 q58
        unfold Run
        simp [execOp, Upon, go_sem, *]
        exact HK.out _ _ (.inl ((Below.refl _ _).alloc (Nat.le_refl _) _)) (lists_new HBI.out _)
      · intro ev w' hC hc hf hb hr K hK
        have e62 := hr 25 _ rfl (by kernel_rfl)
        change (Lists [two src, two dst, four seq, four ack, [80, flags], two wnd, two 0, two 0, optL mss, data] : Pred) (ev (.tmp 62)) _ at e62
        have HK := Lib.hid hK
        have HC := Lib.hid hC
        clear hb hr hK hC
        obtain ⟨g62, vs, q62, r62, hb62⟩ := e62
        simp only [List.length_cons, List.length_nil, Nat.zero_add] at q62
        have HCC := Lib.hid (concat_any ⟨g62, 0, none⟩ 10 _ _ _ _ vs _ w' r62 hb62 (Nat.le_refl _) (Nat.le_refl _) (by rw [HFL.out]; exact HBL.out) (by simp))
        clear r62 hb62
        unfold Run
        simp [execOp, Upon, go_sem, *]
        refine HCC.out.mono ?_
        rintro e w3 ⟨A2, c2, rfl, ho, hb⟩
        rw [HFL.out] at ho ⊢
        exact ⟨_, rfl, HK.out _ _ (.inl hb) ⟨A2, c2, rfl, own_base ho HC.out.size⟩⟩
      · intro ev w' hC hc hf hb hr K hK
        have e63 := hr 26 _ rfl (by kernel_rfl)
        change (Owned w2.heap.size b0 : Pred) (ev (.tmp 63)) _ at e63
        have HK := Lib.hid hK
        have HC := Lib.hid hC
        clear hb hr hK hC hf
        have E := Lib.hid e63
        clear e63
        unfold Run
        simp [execOp, Upon, go_sem, *]
        exact HK.out _ _ (.inl (Below.refl _ _)) E.out
    · exact rl_mono ⟨is_mono _, is_mono _, fresh_mono _ _, is_mono _, is_mono _, fresh_mono _ _, is_mono _, is_mono _, fresh_mono _ _, is_mono _, is_mono _, fresh_mono _ _, is_mono _, is_mono _, is_mono _, is_mono _, fresh_mono _ _, is_mono _, is_mono _, fresh_mono _ _, fresh_mono _ _, fresh_mono _ _, is_mono _, is_mono _, is_mono _, lists_mono _, owned_mono _ _, owned_mono _ _, trivial⟩
    intro us wr hG hH
    obtain ⟨-, -, -, -, -, -, -, -, -, -, -, -, -, -, -, -, -, -, -, -, -, -, -, -, -, -, -, h27, -⟩ := hH
    simp only [fillM]
    change (Owned w2.heap.size b0 : Pred) (us 10) wr at h27
    generalize us 37 = v37
    generalize us 38 = v38
    generalize us 39 = v39
    generalize us 40 = v40
    generalize us 41 = v41
    generalize us 42 = v42
    generalize us 43 = v43
    generalize us 44 = v44
    generalize us 45 = v45
    generalize us 46 = v46
    generalize us 47 = v47
    generalize us 48 = v48
    generalize us 49 = v49
    generalize us 50 = v50
    generalize us 51 = v51
    generalize us 52 = v52
    generalize us 53 = v53
    generalize us 54 = v54
    generalize us 55 = v55
    generalize us 56 = v56
    generalize us 57 = v57
    generalize us 58 = v58
    generalize us 59 = v59
    generalize us 60 = v60
    generalize us 61 = v61
    generalize us 62 = v62
    generalize us 63 = v63
    generalize us 10 = v10 at h27 ⊢
    obtain ⟨A5, c5, rfl, ho5⟩ := h27
    obtain ⟨g5, rfl, hg5, hlt5, -⟩ := own_at ho5 (j := 0) (cells_get b0 0 (by rw [HLB.out]; omega))
    have ho6 : wr.ownsRow w2.heap.size 5 1 (.slice (some ⟨g5, 0, none⟩) m c5) m (cells b0) := by
      have h := ho5
      unfold OwnB at h
      rwa [HLB.out] at h
    have hcap := own_cap ho6
    rw [HLB.out]
    obtain ⟨hcap1, hcap2⟩ := hcap
    unfold maxLen at hcap2
    rcases ho6.2 with ⟨he, _⟩ | ⟨g, cap, cur, he, _, hgr, _, _, hcs, htk⟩
    · cases he
    simp only [Value.slice.injEq, Option.some.injEq, Addr.mk.injEq, and_true] at he
    obtain ⟨rfl, -, rfl⟩ := he
    rw [Nat.mul_one] at hcs htk
    have HGR := Lib.hid hgr
    have HCS := Lib.hid hcs
    have HTK := Lib.hid htk
    have HG5 := Lib.hid hg5
    have HLT := Lib.hid hlt5
    have HCB : Hid (∀ (k : Nat) (u : Value), (cells b0)[k]? = some u → cur[k]? = some u) := fun k u hu => by
      rw [← HTK.out, List.getElem?_take] at hu
      split at hu
      · rw [← Array.getElem?_toList]; exact hu
      · cases hu
    have HBR : Hid (Below w.heap.size w wr) := HB2.out.trans (hG.belowF.mono HB2.out.size)
    have hw2 : w.heap.size + 2 < w2.heap.size := by have h1 := HW1.out; have h2 := HBW.out.size; omega
    have hgsr := (hG.belowF.block (w.heap.size + 1) (by omega)).trans ((HBW.out.block (w.heap.size + 1) (by have := HW1.out; omega)).trans HGS.out)
    have hgdr := (hG.belowF.block (w.heap.size + 2) (by omega)).trans ((HBW.out.block (w.heap.size + 2) (by have := HW1.out; omega)).trans HGD.out)
    have HIS : Hid (∀ w', Gro (· = g5) wr w' → w'.heap[w.heap.size + 1]? = some (.cells #[.int .u8 (s0.toNat : Int), .int .u8 (s1.toNat : Int), .int .u8 (s2.toNat : Int), .int .u8 (s3.toNat : Int)] 28 (0, 0))) := fun w' hg => (hg.block _ (row_lt hgsr) (by omega)).trans hgsr
    have HID : Hid (∀ w', Gro (· = g5) wr w' → w'.heap[w.heap.size + 2]? = some (.cells #[.int .u8 (d0.toNat : Int), .int .u8 (d1.toNat : Int), .int .u8 (d2.toNat : Int), .int .u8 (d3.toNat : Int)] 28 (0, 0))) := fun w' hg => (hg.block _ (row_lt hgdr) (by omega)).trans hgdr
    obtain ⟨cur2, hcur2⟩ : ∃ cur2, (splice cur.toList 16 (cells (two S))).toArray = cur2 := ⟨_, rfl⟩
    have HC2 := Lib.hid hcur2
    have HSZ2 : Hid (cur2.size = cur.size) := by
      show _ = _
      rw [← hcur2, List.size_toArray, length_splice _ _ _ (by rw [cells_length, two_length, Array.length_toList, hcs]; omega), Array.length_toList]
    have HAD : Hid ((if c5 = 16 then some (⟨g5, 0, none⟩ : Addr) else (some (⟨g5, 0, none⟩ : Addr)).map (·.add (16 * 1))) = some ⟨g5, 16, none⟩) := by
      show _ = _
      rw [if_neg (by omega), Option.map_some, Nat.mul_one, Addr.add_mid, Nat.zero_add]
    obtain ⟨ps, hps⟩ : ∃ ps, pseudoT [s0, s1, s2, s3] [d0, d1, d2, d3] m = ps := ⟨_, rfl⟩
    rw [hps] at HBA
    have HPS := Lib.hid hps
    have HPL : Hid (ps.length = 12) := by show _ = _; rw [← hps]; rfl
    have HS2 : Hid (S < 65536) := by show _ < _; rw [HSU.out]; omega
    clear hG ho5 ho6 hgr hcs htk hg5 hlt5 hcur2 hps hgsr hgdr
    go_wp2_with fail
    apply wp_region_relyG [10] (fun L w' => Gro (· = g5) wr w' ∧ w'.heap[g5]? = some (.cells (if L 10 then cur2 else cur) 5 (0, 0))) (RL [Is _, Is (.slice (some ⟨g5, 16, none⟩) (m - 16) (c5 - 16)), Is (.agg #[.int .u8 (s0.toNat : Int), .int .u8 (s1.toNat : Int), .int .u8 (s2.toNat : Int), .int .u8 (s3.toNat : Int)]), Is (.agg #[.int .u8 (d0.toNat : Int), .int .u8 (d1.toNat : Int), .int .u8 (d2.toNat : Int), .int .u8 (d3.toNat : Int)]), Is _, Fresh wr.heap.size ps, Is _, TwoP wr.heap.size g5 m c5 ps, Is (.int .u16 (S : Int)), Fresh wr.heap.size (two S), Is (goInt 2)]) [false, false, false, false, false, false, false, false, false, false, false, false, false, false, false, false, false, false, false, false, false, false, false, false, false, false, false, false, false, false, false, false, false, false, false, false, false, false, false, false, false, false, false, false, false, false, false, false, false, false, false, false, false, false, false, false, false, false, false, false, false, false, false, false, true, true, true, true, true, true, true, true, true, true, true, false]
    · kernel_rfl
    · kernel_rfl
    · kernel_rfl
    · refine ⟨?_, ?_, ?_, ?_, ?_, ?_, ?_, ?_, ?_, ?_, ?_, trivial⟩
      · intro L ev w' hC hL hx K hK
        have e10 : ev (.tmp 10) = _ := hx.base 10 (by kernel_rfl)
        have HK := Lib.hid hK
        have HC := Lib.hid hC
        have HL := Lib.hid hL
        have HX := Lib.hid hx
        have hc := hx.cst
        skip
        clear hx hK hC hL
        unfold Run
        simp [execOp, Upon, go_sem, *]
        exact HK.out _ _ (.inl ⟨Below.refl _ _, by decide⟩) rfl
      · intro L ev w' hC hL hx K hK
        have e64 := hx.held 0 _ rfl (by kernel_rfl)
        change ev (.tmp 64) = _ at e64
        have HK := Lib.hid hK
        have HC := Lib.hid hC
        have HL := Lib.hid hL
        have HX := Lib.hid hx
        have hc := hx.cst
        skip
        clear hx hK hC hL
        have hrun := run_slice_l (P := Try.prog) 24 5 1 Try.underlying24 (by kernel_rfl) (some ⟨g5, 0, none⟩) m c5 16 (by omega) w'
        rw [HAD.out] at hrun
        unfold Run
        rw [run_sliceE 24 _ (some _) none rfl Try.underlying24 e64 (by simp only [Option.map_some, Option.map_none, hc]; exact hrun)]
        exact HK.out _ _ (.inl ⟨Below.refl _ _, by decide⟩) rfl
      · intro L ev w' hC hL hx K hK
        have e4 : ev (.tmp 4) = _ := hx.base 4 (by kernel_rfl)
        have HK := Lib.hid hK
        have HC := Lib.hid hC
        have HL := Lib.hid hL
        have HX := Lib.hid hx
        have hc := hx.cst
        skip
        clear hx hK hC hL
        have q1 : ev (.tmp 4) = .pointer (some ⟨w.heap.size + 1, 0, none⟩) := e4
        have hld := run_loadVar_row (P := Try.prog) w' (w.heap.size + 1) 28 28 #[.int .u8 (s0.toNat : Int), .int .u8 (s1.toNat : Int), .int .u8 (s2.toNat : Int), .int .u8 (s3.toNat : Int)] (0, 0) _ (HIS.out w' HC.out.1) Try.underlying28 rfl (by kernel_rfl)
        unfold Run
        rw [run_loadE 28 _ rfl q1 hld]
        exact HK.out _ _ (.inl ⟨Below.refl _ _, by decide⟩) rfl
      · intro L ev w' hC hL hx K hK
        have e5 : ev (.tmp 5) = _ := hx.base 5 (by kernel_rfl)
        have HK := Lib.hid hK
        have HC := Lib.hid hC
        have HL := Lib.hid hL
        have HX := Lib.hid hx
        have hc := hx.cst
        skip
        clear hx hK hC hL
        have q1 : ev (.tmp 5) = .pointer (some ⟨w.heap.size + 2, 0, none⟩) := e5
        have hld := run_loadVar_row (P := Try.prog) w' (w.heap.size + 2) 28 28 #[.int .u8 (d0.toNat : Int), .int .u8 (d1.toNat : Int), .int .u8 (d2.toNat : Int), .int .u8 (d3.toNat : Int)] (0, 0) _ (HID.out w' HC.out.1) Try.underlying28 rfl (by kernel_rfl)
        unfold Run
        rw [run_loadE 28 _ rfl q1 hld]
        exact HK.out _ _ (.inl ⟨Below.refl _ _, by decide⟩) rfl
      · intro L ev w' hC hL hx K hK
        have e10 : ev (.tmp 10) = _ := hx.base 10 (by kernel_rfl)
        have HK := Lib.hid hK
        have HC := Lib.hid hC
        have HL := Lib.hid hL
        have HX := Lib.hid hx
        have hc := hx.cst
        skip
        clear hx hK hC hL
        unfold Run
        simp [execOp, Upon, go_sem, *]
        exact HK.out _ _ (.inl ⟨Below.refl _ _, by decide⟩) rfl
      · intro L ev w' hC hL hx K hK
        have e66 := hx.held 2 _ rfl (by kernel_rfl)
        have e67 := hx.held 3 _ rfl (by kernel_rfl)
        have e68 := hx.held 4 _ rfl (by kernel_rfl)
        change ev (.tmp 66) = _ at e66
        change ev (.tmp 67) = _ at e67
        change ev (.tmp 68) = _ at e68
        have HK := Lib.hid hK
        have HC := Lib.hid hC
        have HL := Lib.hid hL
        have HX := Lib.hid hx
        have hc := hx.cst
        have hf := hx.fn
        clear hx hK hC hL
        unfold Run
        simp [execOp, Upon, go_sem, *]
        refine (spseudo_any s0 s1 s2 s3 d0 d1 d2 d3 (some ⟨g5, 0, none⟩) m c5 w').mono ?_
        rw [HPS.out]
        rintro e w3 ⟨v, rfl, hf, hb⟩
        exact ⟨v, rfl, HK.out _ _ (.inl ⟨hb, by decide⟩) (hf.wide HC.out.1.size)⟩
      · intro L ev w' hC hL hx K hK
        have e10 : ev (.tmp 10) = _ := hx.base 10 (by kernel_rfl)
        have HK := Lib.hid hK
        have HC := Lib.hid hC
        have HL := Lib.hid hL
        have HX := Lib.hid hx
        have hc := hx.cst
        skip
        clear hx hK hC hL
        unfold Run
        simp [execOp, Upon, go_sem, *]
        exact HK.out _ _ (.inl ⟨Below.refl _ _, by decide⟩) rfl
      · intro L ev w' hC hL hx K hK
        have e69 := hx.held 5 _ rfl (by kernel_rfl)
        have e70 := hx.held 6 _ rfl (by kernel_rfl)
        change (Fresh wr.heap.size ps : Pred) (ev (.tmp 69)) w' at e69
        change ev (.tmp 70) = _ at e70
        have HK := Lib.hid hK
        have HC := Lib.hid hC
        have HL := Lib.hid hL
        have HX := Lib.hid hx
        have hc := hx.cst
        skip
        clear hx hK hC hL
        obtain ⟨A69, c69, q69, r69, _⟩ := e69
        have HR69 := Lib.hid r69
        have HNW := Lib.hid (heap_alloc_new w' (.cells #[.slice A69 ps.length c69, .slice (some ⟨g5, 0, none⟩) m c5] 24))
        clear r69
        unfold Run
        simp [execOp, Upon, go_sem, *]
        exact HK.out _ _ (.inl ⟨(Below.refl _ _).alloc (Nat.le_refl _) _, by decide⟩) ⟨w'.heap.size, A69, c69, rfl, HC.out.1.size, HNW.out, (HR69.out.alloc (Nat.le_refl _) _).wide (Nat.le_refl _) (by simp)⟩
      · intro L ev w' hC hL hx K hK
        have e71 := hx.held 7 _ rfl (by kernel_rfl)
        change (TwoP wr.heap.size g5 m c5 ps : Pred) (ev (.tmp 71)) w' at e71
        have HK := Lib.hid hK
        have HC := Lib.hid hC
        have HL := Lib.hid hL
        have HX := Lib.hid hx
        have hc := hx.cst
        have hf := hx.fn
        clear hx hK hC hL
        obtain ⟨g71, A71, c71, q71, b71, h71, r71⟩ := e71
        have hL10 : L 10 = false := Bool.eq_false_iff.2 fun h => by have h1 := HX.out.closed 10 _ 9 rfl h (by kernel_rfl); have h2 := HX.out.closed 9 _ 8 rfl h1 (by kernel_rfl); rw [HL.out] at h2; cases h2
        have hcg := HC.out.2
        rw [hL10] at hcg
        have hrb : Rd w' 0 w'.heap.size (some ⟨g5, 0, none⟩) (cells b0) := (rd_mid2 hcg fun k u hu => HCB.out k u hu).wide (Nat.zero_le _) (row_lt hcg)
        have hs := sum_any ⟨g71, 0, none⟩ [.slice A71 ps.length c71, .slice (some ⟨g5, 0, none⟩) m c5] [ps, b0] 2 g71 (g71 + 1) 0 w'.heap.size 2 ba w' (rd_mid2 h71 fun k u hu => by simpa using hu) (pts_cons (r71.wide (Nat.zero_le _) (Nat.le_refl _)) rfl (pts_cons hrb HLB.out pts_nil)) rfl (by decide) (by intro p hp; simp at hp; unfold maxLen; rcases hp with rfl | rfl; (· have := HPL.out; omega); (· have := HLB.out; omega)) (by rw [HBA.out]; simp)
        rw [← HSU.out] at hs
        have HS := Lib.hid hs
        clear hs hcg hrb h71 r71 hL10
        unfold Run
        simp [execOp, Upon, go_sem, *]
        refine HS.out.mono ?_
        rintro e w3 ⟨rfl, rfl⟩
        exact ⟨_, rfl, HK.out _ _ (.inl ⟨Below.refl _ _, by decide⟩) rfl⟩
      · intro L ev w' hC hL hx K hK
        have e72 := hx.held 8 _ rfl (by kernel_rfl)
        change ev (.tmp 72) = _ at e72
        have HK := Lib.hid hK
        have HC := Lib.hid hC
        have HL := Lib.hid hL
        have HX := Lib.hid hx
        have hc := hx.cst
        have hf := hx.fn
        clear hx hK hC hL
        unfold Run
        simp [execOp, Upon, go_sem, *]
        refine (spair_any S _ HS2.out).mono ?_
        rintro e w3 ⟨v, rfl, hf, hb⟩
        exact ⟨v, rfl, HK.out _ _ (.inl ⟨hb, by decide⟩) (hf.wide HC.out.1.size)⟩
      · intro L ev w' hC hL hx K hK
        have e65 := hx.held 1 _ rfl (by kernel_rfl)
        have e73 := hx.held 9 _ rfl (by kernel_rfl)
        change ev (.tmp 65) = _ at e65
        change (Fresh wr.heap.size (two S) : Pred) (ev (.tmp 73)) w' at e73
        have HK := Lib.hid hK
        have HC := Lib.hid hC
        have HL := Lib.hid hL
        have HX := Lib.hid hx
        have hc := hx.cst
        skip
        clear hx hK hC hL
        obtain ⟨A73, c73, q73, r73, _⟩ := e73
        have hC := HC.out
        rw [HL.out] at hC
        obtain ⟨hC1, hC2⟩ := hC
        replace hC2 : w'.heap[g5]? = some (.cells cur 5 (0, 0)) := hC2
        have hcp := copy_twoK (K := 16) (L := m) (c5 := c5) (c6 := c73) r73 hC2 (by omega) (by rw [HCS.out]; omega) 3
        rw [HC2.out] at hcp
        have hsz := HSZ2.out
        unfold Run
        rw [run_copyE _ _ _ _ rfl e65 q73 hcp]
        refine HK.out _ _ (.inr ⟨⟨hC1.trans (Gro.setRow hC2 _ hsz), setRow_heap _ _ _ _ _ _ hC2⟩, fun j hj hlj u hr => rl_sg (S := Gro (· = g5)) (ex := [10]) 0 (by exact ⟨.inr (is_sg _ _), .inr (is_sg _ _), .inr (is_sg _ _), .inr (is_sg _ _), .inr (is_sg _ _), .inr (fresh_st HLT.out _), .inr (is_sg _ _), .inr (twoP_st HLT.out _), .inr (is_sg _ _), .inr (fresh_st HLT.out _), .inl rfl, trivial⟩) j u _ _ (by simp; omega) (Gro.setRow hC2 _ hsz) hr⟩) rfl
    · exact rl_mono ⟨is_mono _, is_mono _, is_mono _, is_mono _, is_mono _, fresh_mono _ _, is_mono _, twoP_mono _ _ _ _ _, is_mono _, fresh_mono _ _, is_mono _, trivial⟩
    · exact fun L L' w1 he h => ⟨h.1, by rw [← he 10 (by simp)]; exact h.2⟩
    · exact fun L w1 w2 hb h => ⟨h.1.trans (Gro.of hb), (hb.block _ (row_lt h.2)).trans h.2⟩
    · exact ⟨Gro.refl _, HGR.out⟩
    · simp
    intro us3 ws hG hH
    obtain ⟨-, -, -, -, -, -, -, -, -, -, -, -⟩ := hH
    simp only [fillM]
    generalize us3 64 = v64
    generalize us3 65 = v65
    generalize us3 66 = v66
    generalize us3 67 = v67
    generalize us3 68 = v68
    generalize us3 69 = v69
    generalize us3 70 = v70
    generalize us3 71 = v71
    generalize us3 72 = v72
    generalize us3 73 = v73
    generalize us3 74 = v74
    have HWG : Hid (w.heap.size ≤ g5) := by have h1 := HG5.out; show _ ≤ _; omega
    have HB7 : Hid (Below w.heap.size w ws) := HBR.out.trans (hG.1.below (fun k hk => by rw [hk]; exact HWG.out) HBR.out.size)
    have HG7 : Hid (ws.heap[g5]? = some (.cells cur2 5 (0, 0))) := hG.2
    clear hG
    go_wp2
    go_ret2
    have hbl : bs.length = m := HBLEN.out
    have HBZ : bs = front ++ (two S ++ back) := by rw [HBY.out, List.append_assoc]
    have htk : cur2.toList.take m = cells bs := by
      have h1 := HTK.out
      rw [HB10.out] at h1
      rw [← HC2.out]
      show (splice cur.toList 16 (cells (two S))).take m = _
      rw [splice_takeK 16 (cells (two S)) h1 (by rw [← HB10.out]; exact HLB.out) HFL16.out (by rw [cells_length]; rfl), HBZ]
      simp [cells_append]
    refine ⟨some ⟨g5, 0, none⟩, c5, by rw [hbl]; rfl, ?_, HB7.out⟩
    show World.ownsRow _ _ _ _ _ _ _
    rw [hbl]
    exact ⟨by rw [cells_length, hbl, Nat.mul_one], .inr ⟨g5, c5, _, rfl, HWG.out, HG7.out, hcap1, (by unfold maxLen; omega), by rw [HSZ2.out, HCS.out, Nat.mul_one], by rw [Nat.mul_one]; exact htk⟩⟩
  · have HOL : Hid ((optL mss).length = 4) := by show _ = _; unfold optL; rw [if_neg h0]; rfl
    have HWD : Hid (wordsL mss = 96) := by show _ = _; unfold wordsL; rw [if_neg h0]
    have q0 := bneT (show (mss : Int) ≠ 0 by omega)
    have hb2 := hm2 h0
    rw [hb2] at a2
    clear h0 hm2 hb2
    go_enter Try.func11, Try.ntmps11
    go_wp2_with fail
    try rw [hw1]
    refine (sopts_any mss w1 HO6.out).mono ?_
    rintro e w2 ⟨v2, rfl, ⟨A8, c8, rfl, hr8, hA8, hl8, hc8⟩, hb2⟩
    rw [HOL.out] at hl8 ⊢
    have HBW := Lib.hid hb2
    have HB2 : Hid (Below w.heap.size w w2) := HB1.out.trans (hb2.mono HB1.out.size)
    have HAO := Lib.hid hA8
    have HR8 := Lib.hid hr8
    have HRB : Hid (∀ w', Gro (fun _ => False) w2 w' → Rd w' 0 w'.heap.size A (cells data)) := fun w' hg => (HRD.out.below ((HBW.out.mono (Nat.le_trans HB1.out.size (Nat.le_refl _))).trans (hg.belowF.mono (Nat.le_trans HB1.out.size HBW.out.size))) (by have := HHI.out; have := HB1.out.size; omega)).wide (Nat.zero_le _) (by have := HHI.out; have := HB2.out.size; have := hg.size; omega)
    have HRO : Hid (∀ w', Gro (fun _ => False) w2 w' → Rd w' 0 w'.heap.size A8 (cells (optL mss))) := fun w' hg => (HR8.out.below hg.belowF (Nat.le_refl _)).wide (Nat.zero_le _) hg.size
    obtain ⟨b0, hb0⟩ : ∃ b0, front ++ two 0 ++ back = b0 := ⟨_, rfl⟩
    rw [hb0] at HBA
    have HB10 : Hid (b0 = front ++ (two 0 ++ back)) := by show _ = _; rw [← hb0, List.append_assoc]
    have HLB : Hid (b0.length = m) := by show _ = _; rw [HB10.out, HSZ.out]; simp [two_length, HFL16.out, HBK.out, HN.out]; omega
    have hm1000 : m ≤ 1000 := by rw [HSZ.out, HOL.out]; omega
    have hm20 : 20 ≤ m := by rw [HSZ.out]; omega
    have HBL : Hid (b0.length ≤ 1000000000) := by show _ ≤ _; rw [HLB.out]; omega
    have HFL : Hid ([two src, two dst, four seq, four ack, [96, flags], two wnd, two 0, two 0, optL mss, data].flatten = b0) := by show _ = _; rw [HB10.out, HFR.out, HBK.out, HWD.out]; simp
    clear hb2 hr8 hA8 hb0 k7 k4 k6 a2
    go_upto_region 7 with (fail)
    apply wp_region_rely (fun _ => False) (RL [Is _, Is _, Fresh w2.heap.size (two src), Is _, Is _, Fresh w2.heap.size (two dst), Is _, Is _, Fresh w2.heap.size (four seq), Is _, Is _, Fresh w2.heap.size (four ack), Is _, Is _, Is _, Is _, Fresh w2.heap.size [96, flags], Is _, Is _, Fresh w2.heap.size (two wnd), Fresh w2.heap.size (two 0), Fresh w2.heap.size (two 0), Is _, Is _, Is _, Lists [two src, two dst, four seq, four ack, [96, flags], two wnd, two 0, two 0, optL mss, data], Owned w2.heap.size b0, Owned w2.heap.size b0]) [false, false, false, false, false, false, false, false, false, false, true, false, false, false, false, false, false, false, false, false, false, false, false, false, false, false, false, false, false, false, false, false, false, false, false, false, false, true, true, true, true, true, true, true, true, true, true, true, true, true, true, true, true, true, true, true, true, true, true, true, true, true, true, true, false, false, false, false, false, false, false, false, false, false, false, false]
    · kernel_rfl
    · kernel_rfl
    · kernel_rfl
    · refine ⟨?_, ?_, ?_, ?_, ?_, ?_, ?_, ?_, ?_, ?_, ?_, ?_, ?_, ?_, ?_, ?_, ?_, ?_, ?_, ?_, ?_, ?_, ?_, ?_, ?_, ?_, ?_, ?_, trivial⟩
      · intro ev w' hC hc hf hb hr K hK
        have e3 : ev (.tmp 3) = _ := hb 3 (by kernel_rfl)
        have HK := Lib.hid hK
        have HC := Lib.hid hC
        clear hb hr hK hC hf
        unfold Run
        simp [execOp, Upon, go_sem, *]
        exact HK.out _ _ (.inl (Below.refl _ _)) rfl
      · intro ev w' hC hc hf hb hr K hK
        have e37 := hr 0 _ rfl (by kernel_rfl)
        change ev (.tmp 37) = _ at e37
        have HK := Lib.hid hK
        have HC := Lib.hid hC
        clear hb hr hK hC hf
        have k0' := K0.out w' (HBW.out.trans (HC.out.belowF.mono HBW.out.size))
        unfold Run
        simp [execOp, Upon, go_sem, *]
        exact HK.out _ _ (.inl (Below.refl _ _)) rfl
      · intro ev w' hC hc hf hb hr K hK
        have e38 := hr 1 _ rfl (by kernel_rfl)
        change ev (.tmp 38) = _ at e38
        have HK := Lib.hid hK
        have HC := Lib.hid hC
        clear hb hr hK hC
        unfold Run
        simp [execOp, Upon, go_sem, *]
        refine (spair_any src _ HO1.out).mono ?_
        rintro e w3 ⟨v, rfl, hf, hb⟩
        exact ⟨v, rfl, HK.out _ _ (.inl hb) (hf.wide HC.out.size)⟩
      · intro ev w' hC hc hf hb hr K hK
        have e3 : ev (.tmp 3) = _ := hb 3 (by kernel_rfl)
        have HK := Lib.hid hK
        have HC := Lib.hid hC
        clear hb hr hK hC hf
        unfold Run
        simp [execOp, Upon, go_sem, *]
        exact HK.out _ _ (.inl (Below.refl _ _)) rfl
      · intro ev w' hC hc hf hb hr K hK
        have e40 := hr 3 _ rfl (by kernel_rfl)
        change ev (.tmp 40) = _ at e40
        have HK := Lib.hid hK
        have HC := Lib.hid hC
        clear hb hr hK hC hf
        have k1' := K1.out w' (HBW.out.trans (HC.out.belowF.mono HBW.out.size))
        unfold Run
        simp [execOp, Upon, go_sem, *]
        exact HK.out _ _ (.inl (Below.refl _ _)) rfl
      · intro ev w' hC hc hf hb hr K hK
        have e41 := hr 4 _ rfl (by kernel_rfl)
        change ev (.tmp 41) = _ at e41
        have HK := Lib.hid hK
        have HC := Lib.hid hC
        clear hb hr hK hC
        unfold Run
        simp [execOp, Upon, go_sem, *]
        refine (spair_any dst _ HO2.out).mono ?_
        rintro e w3 ⟨v, rfl, hf, hb⟩
        exact ⟨v, rfl, HK.out _ _ (.inl hb) (hf.wide HC.out.size)⟩
      · intro ev w' hC hc hf hb hr K hK
        have e3 : ev (.tmp 3) = _ := hb 3 (by kernel_rfl)
        have HK := Lib.hid hK
        have HC := Lib.hid hC
        clear hb hr hK hC hf
        unfold Run
        simp [execOp, Upon, go_sem, *]
        exact HK.out _ _ (.inl (Below.refl _ _)) rfl
      · intro ev w' hC hc hf hb hr K hK
        have e43 := hr 6 _ rfl (by kernel_rfl)
        change ev (.tmp 43) = _ at e43
        have HK := Lib.hid hK
        have HC := Lib.hid hC
        clear hb hr hK hC hf
        have k2' := K2.out w' (HBW.out.trans (HC.out.belowF.mono HBW.out.size))
        unfold Run
        simp [execOp, Upon, go_sem, *]
        exact HK.out _ _ (.inl (Below.refl _ _)) rfl
      · intro ev w' hC hc hf hb hr K hK
        have e44 := hr 7 _ rfl (by kernel_rfl)
        change ev (.tmp 44) = _ at e44
        have HK := Lib.hid hK
        have HC := Lib.hid hC
        clear hb hr hK hC
        unfold Run
        simp [execOp, Upon, go_sem, *]
        refine (sfour_any seq _ HO3.out).mono ?_
        rintro e w3 ⟨v, rfl, hf, hb⟩
        exact ⟨v, rfl, HK.out _ _ (.inl hb) (hf.wide HC.out.size)⟩
      · intro ev w' hC hc hf hb hr K hK
        have e3 : ev (.tmp 3) = _ := hb 3 (by kernel_rfl)
        have HK := Lib.hid hK
        have HC := Lib.hid hC
        clear hb hr hK hC hf
        unfold Run
        simp [execOp, Upon, go_sem, *]
        exact HK.out _ _ (.inl (Below.refl _ _)) rfl
      · intro ev w' hC hc hf hb hr K hK
        have e46 := hr 9 _ rfl (by kernel_rfl)
        change ev (.tmp 46) = _ at e46
        have HK := Lib.hid hK
        have HC := Lib.hid hC
        clear hb hr hK hC hf
        have k3' := K3.out w' (HBW.out.trans (HC.out.belowF.mono HBW.out.size))
        unfold Run
        simp [execOp, Upon, go_sem, *]
        exact HK.out _ _ (.inl (Below.refl _ _)) rfl
      · intro ev w' hC hc hf hb hr K hK
        have e47 := hr 10 _ rfl (by kernel_rfl)
        change ev (.tmp 47) = _ at e47
        have HK := Lib.hid hK
        have HC := Lib.hid hC
        clear hb hr hK hC
        unfold Run
        simp [execOp, Upon, go_sem, *]
        refine (sfour_any ack _ HO4.out).mono ?_
        rintro e w3 ⟨v, rfl, hf, hb⟩
        exact ⟨v, rfl, HK.out _ _ (.inl hb) (hf.wide HC.out.size)⟩
      · intro ev w' hC hc hf hb hr K hK
        have e9 : ev (.tmp 9) = _ := hb 9 (by kernel_rfl)
        have HK := Lib.hid hK
        have HC := Lib.hid hC
        clear hb hr hK hC hf
        unfold Run
        simp [execOp, Upon, go_sem, *]
        exact HK.out _ _ (.inl (Below.refl _ _)) rfl
      · intro ev w' hC hc hf hb hr K hK
        have e49 := hr 12 _ rfl (by kernel_rfl)
        change ev (.tmp 49) = _ at e49
        have HK := Lib.hid hK
        have HC := Lib.hid hC
        clear hb hr hK hC hf
        unfold Run
        simp [execOp, Upon, go_sem, *]
        exact HK.out _ _ (.inl (Below.refl _ _)) rfl
      · intro ev w' hC hc hf hb hr K hK
        have e3 : ev (.tmp 3) = _ := hb 3 (by kernel_rfl)
        have HK := Lib.hid hK
        have HC := Lib.hid hC
        clear hb hr hK hC hf
        unfold Run
        simp [execOp, Upon, go_sem, *]
        exact HK.out _ _ (.inl (Below.refl _ _)) rfl
      · intro ev w' hC hc hf hb hr K hK
        have e51 := hr 14 _ rfl (by kernel_rfl)
        change ev (.tmp 51) = _ at e51
        have HK := Lib.hid hK
        have HC := Lib.hid hC
        clear hb hr hK hC hf
        have k4' := K4.out w' (HBW.out.trans (HC.out.belowF.mono HBW.out.size))
        unfold Run
        simp [execOp, Upon, go_sem, *]
        exact HK.out _ _ (.inl (Below.refl _ _)) rfl
      · intro ev w' hC hc hf hb hr K hK
        have e50 := hr 13 _ rfl (by kernel_rfl)
        have e52 := hr 15 _ rfl (by kernel_rfl)
        change ev (.tmp 50) = _ at e50
        change ev (.tmp 52) = _ at e52
        have HK := Lib.hid hK
        have HC := Lib.hid hC
        clear hb hr hK hC hf
        unfold Run
        simp [execOp, Upon, go_sem, *]
        exact HK.out _ _ (.inl ((Below.refl _ _).alloc (Nat.le_refl _) _)) ⟨some ⟨w'.heap.size, 0, none⟩, 2, rfl, by rw [World.size_alloc]; exact (rd_new w' (cells [96, flags]) 5 (0, 0)).wide HC.out.size (Nat.le_refl _), (fun h => by cases h), Nat.le_refl _, (by unfold maxLen; simp)⟩
      · intro ev w' hC hc hf hb hr K hK
        have e3 : ev (.tmp 3) = _ := hb 3 (by kernel_rfl)
        have HK := Lib.hid hK
        have HC := Lib.hid hC
        clear hb hr hK hC hf
        unfold Run
        simp [execOp, Upon, go_sem, *]
        exact HK.out _ _ (.inl (Below.refl _ _)) rfl
      · intro ev w' hC hc hf hb hr K hK
        have e54 := hr 17 _ rfl (by kernel_rfl)
        change ev (.tmp 54) = _ at e54
        have HK := Lib.hid hK
        have HC := Lib.hid hC
        clear hb hr hK hC hf
        have k5' := K5.out w' (HBW.out.trans (HC.out.belowF.mono HBW.out.size))
        unfold Run
        simp [execOp, Upon, go_sem, *]
        exact HK.out _ _ (.inl (Below.refl _ _)) rfl
      · intro ev w' hC hc hf hb hr K hK
        have e55 := hr 18 _ rfl (by kernel_rfl)
        change ev (.tmp 55) = _ at e55
        have HK := Lib.hid hK
        have HC := Lib.hid hC
        clear hb hr hK hC
        unfold Run
        simp [execOp, Upon, go_sem, *]
        refine (spair_any wnd _ HO5.out).mono ?_
        rintro e w3 ⟨v, rfl, hf, hb⟩
        exact ⟨v, rfl, HK.out _ _ (.inl hb) (hf.wide HC.out.size)⟩
      · intro ev w' hC hc hf hb hr K hK
        have HK := Lib.hid hK
        have HC := Lib.hid hC
        clear hb hr hK hC
        unfold Run
        simp [execOp, Upon, go_sem, *]
        refine (spair_any 0 _ (by decide)).mono ?_
        rintro e w3 ⟨v, rfl, hf, hb⟩
        exact ⟨v, rfl, HK.out _ _ (.inl hb) (hf.wide HC.out.size)⟩
      · intro ev w' hC hc hf hb hr K hK
        have HK := Lib.hid hK
        have HC := Lib.hid hC
        clear hb hr hK hC
        unfold Run
        simp [execOp, Upon, go_sem, *]
        refine (spair_any 0 _ (by decide)).mono ?_
        rintro e w3 ⟨v, rfl, hf, hb⟩
        exact ⟨v, rfl, HK.out _ _ (.inl hb) (hf.wide HC.out.size)⟩
      · intro ev w' hC hc hf hb hr K hK
        have e8 : ev (.tmp 8) = _ := hb 8 (by kernel_rfl)
        have HK := Lib.hid hK
        have HC := Lib.hid hC
        clear hb hr hK hC hf
        unfold Run
        simp [execOp, Upon, go_sem, *]
        exact HK.out _ _ (.inl (Below.refl _ _)) rfl
      · intro ev w' hC hc hf hb hr K hK
        have e3 : ev (.tmp 3) = _ := hb 3 (by kernel_rfl)
        have HK := Lib.hid hK
        have HC := Lib.hid hC
        clear hb hr hK hC hf
        unfold Run
        simp [execOp, Upon, go_sem, *]
        exact HK.out _ _ (.inl (Below.refl _ _)) rfl
      · intro ev w' hC hc hf hb hr K hK
        have e60 := hr 23 _ rfl (by kernel_rfl)
        change ev (.tmp 60) = _ at e60
        have HK := Lib.hid hK
        have HC := Lib.hid hC
        clear hb hr hK hC hf
        have k7' := K7.out w' (HBW.out.trans (HC.out.belowF.mono HBW.out.size))
        unfold Run
        simp [execOp, Upon, go_sem, *]
        exact HK.out _ _ (.inl (Below.refl _ _)) rfl
      · intro ev w' hC hc hf hb hr K hK
        have e39 := hr 2 _ rfl (by kernel_rfl)
        have e42 := hr 5 _ rfl (by kernel_rfl)
        have e45 := hr 8 _ rfl (by kernel_rfl)
        have e48 := hr 11 _ rfl (by kernel_rfl)
        have e53 := hr 16 _ rfl (by kernel_rfl)
        have e56 := hr 19 _ rfl (by kernel_rfl)
        have e57 := hr 20 _ rfl (by kernel_rfl)
        have e58 := hr 21 _ rfl (by kernel_rfl)
        have e59 := hr 22 _ rfl (by kernel_rfl)
        have e61 := hr 24 _ rfl (by kernel_rfl)
        change (Fresh w2.heap.size (two src) : Pred) (ev (.tmp 39)) _ at e39
        change (Fresh w2.heap.size (two dst) : Pred) (ev (.tmp 42)) _ at e42
        change (Fresh w2.heap.size (four seq) : Pred) (ev (.tmp 45)) _ at e45
        change (Fresh w2.heap.size (four ack) : Pred) (ev (.tmp 48)) _ at e48
        change (Fresh w2.heap.size [96, flags] : Pred) (ev (.tmp 53)) _ at e53
        change (Fresh w2.heap.size (two wnd) : Pred) (ev (.tmp 56)) _ at e56
        change (Fresh w2.heap.size (two 0) : Pred) (ev (.tmp 57)) _ at e57
        change (Fresh w2.heap.size (two 0) : Pred) (ev (.tmp 58)) _ at e58
        change ev (.tmp 59) = _ at e59
        change ev (.tmp 61) = _ at e61
        have HK := Lib.hid hK
        have HC := Lib.hid hC
        clear hb hr hK hC hf
        obtain ⟨A39, c39, q39, r39, z39, _⟩ := e39
        obtain ⟨A42, c42, q42, r42, z42, _⟩ := e42
        obtain ⟨A45, c45, q45, r45, z45, _⟩ := e45
        obtain ⟨A48, c48, q48, r48, z48, _⟩ := e48
        obtain ⟨A53, c53, q53, r53, z53, _⟩ := e53
        obtain ⟨A56, c56, q56, r56, z56, _⟩ := e56
        obtain ⟨A57, c57, q57, r57, z57, _⟩ := e57
        obtain ⟨A58, c58, q58, r58, z58, _⟩ := e58
        have HDA := Lib.hid (HRB.out w' HC.out)
        have HOA := Lib.hid (HRO.out w' HC.out)
        have hb0 : Bits w' 0 w'.heap.size [.slice A8 4 c8, .slice A n c] [optL mss, data] := by
          have h1 := Bits.cons (lo := 0) (hi := w'.heap.size) HDA.out HAN.out (Bits.nil (w := w'))
          rw [HN.out] at h1
          have h2 := Bits.cons (lo := 0) (hi := w'.heap.size) HOA.out HAO.out h1
          rwa [HOL.out] at h2
        have hb3 := (fresh_bits r39 z39 (fresh_bits r42 z42 (fresh_bits r45 z45 (fresh_bits r48 z48 (fresh_bits r53 z53 (fresh_bits r56 z56 (fresh_bits r57 z57 (fresh_bits r58 z58 hb0))))))))
        have HBI := Lib.hid hb3
        clear hb0 hb3 r39 z39 r42 z42 r45 z45 r48 z48 r53 z53 r56 z56 r57 z57 r58 z58
        simp only [two_length, four_length, List.length_cons, List.length_nil, Nat.zero_add] at q39 q42 q45 q48 q53 q56 q57 q58
        unfold Run
        simp [execOp, Upon, go_sem, *]
        exact HK.out _ _ (.inl ((Below.refl _ _).alloc (Nat.le_refl _) _)) (lists_new HBI.out _)
      · intro ev w' hC hc hf hb hr K hK
        have e62 := hr 25 _ rfl (by kernel_rfl)
        change (Lists [two src, two dst, four seq, four ack, [96, flags], two wnd, two 0, two 0, optL mss, data] : Pred) (ev (.tmp 62)) _ at e62
        have HK := Lib.hid hK
        have HC := Lib.hid hC
        clear hb hr hK hC
        obtain ⟨g62, vs, q62, r62, hb62⟩ := e62
        simp only [List.length_cons, List.length_nil, Nat.zero_add] at q62
        have HCC := Lib.hid (concat_any ⟨g62, 0, none⟩ 10 _ _ _ _ vs _ w' r62 hb62 (Nat.le_refl _) (Nat.le_refl _) (by rw [HFL.out]; exact HBL.out) (by simp))
        clear r62 hb62
        unfold Run
        simp [execOp, Upon, go_sem, *]
        refine HCC.out.mono ?_
        rintro e w3 ⟨A2, c2, rfl, ho, hb⟩
        rw [HFL.out] at ho ⊢
        exact ⟨_, rfl, HK.out _ _ (.inl hb) ⟨A2, c2, rfl, own_base ho HC.out.size⟩⟩
      · intro ev w' hC hc hf hb hr K hK
        have e63 := hr 26 _ rfl (by kernel_rfl)
        change (Owned w2.heap.size b0 : Pred) (ev (.tmp 63)) _ at e63
        have HK := Lib.hid hK
        have HC := Lib.hid hC
        clear hb hr hK hC hf
        have E := Lib.hid e63
        clear e63
        unfold Run
        simp [execOp, Upon, go_sem, *]
        exact HK.out _ _ (.inl (Below.refl _ _)) E.out
    · exact rl_mono ⟨is_mono _, is_mono _, fresh_mono _ _, is_mono _, is_mono _, fresh_mono _ _, is_mono _, is_mono _, fresh_mono _ _, is_mono _, is_mono _, fresh_mono _ _, is_mono _, is_mono _, is_mono _, is_mono _, fresh_mono _ _, is_mono _, is_mono _, fresh_mono _ _, fresh_mono _ _, fresh_mono _ _, is_mono _, is_mono _, is_mono _, lists_mono _, owned_mono _ _, owned_mono _ _, trivial⟩
    intro us wr hG hH
    obtain ⟨-, -, -, -, -, -, -, -, -, -, -, -, -, -, -, -, -, -, -, -, -, -, -, -, -, -, -, h27, -⟩ := hH
    simp only [fillM]
    change (Owned w2.heap.size b0 : Pred) (us 10) wr at h27
    generalize us 37 = v37
    generalize us 38 = v38
    generalize us 39 = v39
    generalize us 40 = v40
    generalize us 41 = v41
    generalize us 42 = v42
    generalize us 43 = v43
    generalize us 44 = v44
    generalize us 45 = v45
    generalize us 46 = v46
    generalize us 47 = v47
    generalize us 48 = v48
    generalize us 49 = v49
    generalize us 50 = v50
    generalize us 51 = v51
    generalize us 52 = v52
    generalize us 53 = v53
    generalize us 54 = v54
    generalize us 55 = v55
    generalize us 56 = v56
    generalize us 57 = v57
    generalize us 58 = v58
    generalize us 59 = v59
    generalize us 60 = v60
    generalize us 61 = v61
    generalize us 62 = v62
    generalize us 63 = v63
    generalize us 10 = v10 at h27 ⊢
    obtain ⟨A5, c5, rfl, ho5⟩ := h27
    obtain ⟨g5, rfl, hg5, hlt5, -⟩ := own_at ho5 (j := 0) (cells_get b0 0 (by rw [HLB.out]; omega))
    have ho6 : wr.ownsRow w2.heap.size 5 1 (.slice (some ⟨g5, 0, none⟩) m c5) m (cells b0) := by
      have h := ho5
      unfold OwnB at h
      rwa [HLB.out] at h
    have hcap := own_cap ho6
    rw [HLB.out]
    obtain ⟨hcap1, hcap2⟩ := hcap
    unfold maxLen at hcap2
    rcases ho6.2 with ⟨he, _⟩ | ⟨g, cap, cur, he, _, hgr, _, _, hcs, htk⟩
    · cases he
    simp only [Value.slice.injEq, Option.some.injEq, Addr.mk.injEq, and_true] at he
    obtain ⟨rfl, -, rfl⟩ := he
    rw [Nat.mul_one] at hcs htk
    have HGR := Lib.hid hgr
    have HCS := Lib.hid hcs
    have HTK := Lib.hid htk
    have HG5 := Lib.hid hg5
    have HLT := Lib.hid hlt5
    have HCB : Hid (∀ (k : Nat) (u : Value), (cells b0)[k]? = some u → cur[k]? = some u) := fun k u hu => by
      rw [← HTK.out, List.getElem?_take] at hu
      split at hu
      · rw [← Array.getElem?_toList]; exact hu
      · cases hu
    have HBR : Hid (Below w.heap.size w wr) := HB2.out.trans (hG.belowF.mono HB2.out.size)
    have hw2 : w.heap.size + 2 < w2.heap.size := by have h1 := HW1.out; have h2 := HBW.out.size; omega
    have hgsr := (hG.belowF.block (w.heap.size + 1) (by omega)).trans ((HBW.out.block (w.heap.size + 1) (by have := HW1.out; omega)).trans HGS.out)
    have hgdr := (hG.belowF.block (w.heap.size + 2) (by omega)).trans ((HBW.out.block (w.heap.size + 2) (by have := HW1.out; omega)).trans HGD.out)
    have HIS : Hid (∀ w', Gro (· = g5) wr w' → w'.heap[w.heap.size + 1]? = some (.cells #[.int .u8 (s0.toNat : Int), .int .u8 (s1.toNat : Int), .int .u8 (s2.toNat : Int), .int .u8 (s3.toNat : Int)] 28 (0, 0))) := fun w' hg => (hg.block _ (row_lt hgsr) (by omega)).trans hgsr
    have HID : Hid (∀ w', Gro (· = g5) wr w' → w'.heap[w.heap.size + 2]? = some (.cells #[.int .u8 (d0.toNat : Int), .int .u8 (d1.toNat : Int), .int .u8 (d2.toNat : Int), .int .u8 (d3.toNat : Int)] 28 (0, 0))) := fun w' hg => (hg.block _ (row_lt hgdr) (by omega)).trans hgdr
    obtain ⟨cur2, hcur2⟩ : ∃ cur2, (splice cur.toList 16 (cells (two S))).toArray = cur2 := ⟨_, rfl⟩
    have HC2 := Lib.hid hcur2
    have HSZ2 : Hid (cur2.size = cur.size) := by
      show _ = _
      rw [← hcur2, List.size_toArray, length_splice _ _ _ (by rw [cells_length, two_length, Array.length_toList, hcs]; omega), Array.length_toList]
    have HAD : Hid ((if c5 = 16 then some (⟨g5, 0, none⟩ : Addr) else (some (⟨g5, 0, none⟩ : Addr)).map (·.add (16 * 1))) = some ⟨g5, 16, none⟩) := by
      show _ = _
      rw [if_neg (by omega), Option.map_some, Nat.mul_one, Addr.add_mid, Nat.zero_add]
    obtain ⟨ps, hps⟩ : ∃ ps, pseudoT [s0, s1, s2, s3] [d0, d1, d2, d3] m = ps := ⟨_, rfl⟩
    rw [hps] at HBA
    have HPS := Lib.hid hps
    have HPL : Hid (ps.length = 12) := by show _ = _; rw [← hps]; rfl
    have HS2 : Hid (S < 65536) := by show _ < _; rw [HSU.out]; omega
    clear hG ho5 ho6 hgr hcs htk hg5 hlt5 hcur2 hps hgsr hgdr
    go_wp2_with fail
    apply wp_region_relyG [10] (fun L w' => Gro (· = g5) wr w' ∧ w'.heap[g5]? = some (.cells (if L 10 then cur2 else cur) 5 (0, 0))) (RL [Is _, Is (.slice (some ⟨g5, 16, none⟩) (m - 16) (c5 - 16)), Is (.agg #[.int .u8 (s0.toNat : Int), .int .u8 (s1.toNat : Int), .int .u8 (s2.toNat : Int), .int .u8 (s3.toNat : Int)]), Is (.agg #[.int .u8 (d0.toNat : Int), .int .u8 (d1.toNat : Int), .int .u8 (d2.toNat : Int), .int .u8 (d3.toNat : Int)]), Is _, Fresh wr.heap.size ps, Is _, TwoP wr.heap.size g5 m c5 ps, Is (.int .u16 (S : Int)), Fresh wr.heap.size (two S), Is (goInt 2)]) [false, false, false, false, false, false, false, false, false, false, false, false, false, false, false, false, false, false, false, false, false, false, false, false, false, false, false, false, false, false, false, false, false, false, false, false, false, false, false, false, false, false, false, false, false, false, false, false, false, false, false, false, false, false, false, false, false, false, false, false, false, false, false, false, true, true, true, true, true, true, true, true, true, true, true, false]
    · kernel_rfl
    · kernel_rfl
    · kernel_rfl
    · refine ⟨?_, ?_, ?_, ?_, ?_, ?_, ?_, ?_, ?_, ?_, ?_, trivial⟩
      · intro L ev w' hC hL hx K hK
        have e10 : ev (.tmp 10) = _ := hx.base 10 (by kernel_rfl)
        have HK := Lib.hid hK
        have HC := Lib.hid hC
        have HL := Lib.hid hL
        have HX := Lib.hid hx
        have hc := hx.cst
        skip
        clear hx hK hC hL
        unfold Run
        simp [execOp, Upon, go_sem, *]
        exact HK.out _ _ (.inl ⟨Below.refl _ _, by decide⟩) rfl
      · intro L ev w' hC hL hx K hK
        have e64 := hx.held 0 _ rfl (by kernel_rfl)
        change ev (.tmp 64) = _ at e64
        have HK := Lib.hid hK
        have HC := Lib.hid hC
        have HL := Lib.hid hL
        have HX := Lib.hid hx
        have hc := hx.cst
        skip
        clear hx hK hC hL
        have hrun := run_slice_l (P := Try.prog) 24 5 1 Try.underlying24 (by kernel_rfl) (some ⟨g5, 0, none⟩) m c5 16 (by omega) w'
        rw [HAD.out] at hrun
        unfold Run
        rw [run_sliceE 24 _ (some _) none rfl Try.underlying24 e64 (by simp only [Option.map_some, Option.map_none, hc]; exact hrun)]
        exact HK.out _ _ (.inl ⟨Below.refl _ _, by decide⟩) rfl
      · intro L ev w' hC hL hx K hK
        have e4 : ev (.tmp 4) = _ := hx.base 4 (by kernel_rfl)
        have HK := Lib.hid hK
        have HC := Lib.hid hC
        have HL := Lib.hid hL
        have HX := Lib.hid hx
        have hc := hx.cst
        skip
        clear hx hK hC hL
        have q1 : ev (.tmp 4) = .pointer (some ⟨w.heap.size + 1, 0, none⟩) := e4
        have hld := run_loadVar_row (P := Try.prog) w' (w.heap.size + 1) 28 28 #[.int .u8 (s0.toNat : Int), .int .u8 (s1.toNat : Int), .int .u8 (s2.toNat : Int), .int .u8 (s3.toNat : Int)] (0, 0) _ (HIS.out w' HC.out.1) Try.underlying28 rfl (by kernel_rfl)
        unfold Run
        rw [run_loadE 28 _ rfl q1 hld]
        exact HK.out _ _ (.inl ⟨Below.refl _ _, by decide⟩) rfl
      · intro L ev w' hC hL hx K hK
        have e5 : ev (.tmp 5) = _ := hx.base 5 (by kernel_rfl)
        have HK := Lib.hid hK
        have HC := Lib.hid hC
        have HL := Lib.hid hL
        have HX := Lib.hid hx
        have hc := hx.cst
        skip
        clear hx hK hC hL
        have q1 : ev (.tmp 5) = .pointer (some ⟨w.heap.size + 2, 0, none⟩) := e5
        have hld := run_loadVar_row (P := Try.prog) w' (w.heap.size + 2) 28 28 #[.int .u8 (d0.toNat : Int), .int .u8 (d1.toNat : Int), .int .u8 (d2.toNat : Int), .int .u8 (d3.toNat : Int)] (0, 0) _ (HID.out w' HC.out.1) Try.underlying28 rfl (by kernel_rfl)
        unfold Run
        rw [run_loadE 28 _ rfl q1 hld]
        exact HK.out _ _ (.inl ⟨Below.refl _ _, by decide⟩) rfl
      · intro L ev w' hC hL hx K hK
        have e10 : ev (.tmp 10) = _ := hx.base 10 (by kernel_rfl)
        have HK := Lib.hid hK
        have HC := Lib.hid hC
        have HL := Lib.hid hL
        have HX := Lib.hid hx
        have hc := hx.cst
        skip
        clear hx hK hC hL
        unfold Run
        simp [execOp, Upon, go_sem, *]
        exact HK.out _ _ (.inl ⟨Below.refl _ _, by decide⟩) rfl
      · intro L ev w' hC hL hx K hK
        have e66 := hx.held 2 _ rfl (by kernel_rfl)
        have e67 := hx.held 3 _ rfl (by kernel_rfl)
        have e68 := hx.held 4 _ rfl (by kernel_rfl)
        change ev (.tmp 66) = _ at e66
        change ev (.tmp 67) = _ at e67
        change ev (.tmp 68) = _ at e68
        have HK := Lib.hid hK
        have HC := Lib.hid hC
        have HL := Lib.hid hL
        have HX := Lib.hid hx
        have hc := hx.cst
        have hf := hx.fn
        clear hx hK hC hL
        unfold Run
        simp [execOp, Upon, go_sem, *]
        refine (spseudo_any s0 s1 s2 s3 d0 d1 d2 d3 (some ⟨g5, 0, none⟩) m c5 w').mono ?_
        rw [HPS.out]
        rintro e w3 ⟨v, rfl, hf, hb⟩
        exact ⟨v, rfl, HK.out _ _ (.inl ⟨hb, by decide⟩) (hf.wide HC.out.1.size)⟩
      · intro L ev w' hC hL hx K hK
        have e10 : ev (.tmp 10) = _ := hx.base 10 (by kernel_rfl)
        have HK := Lib.hid hK
        have HC := Lib.hid hC
        have HL := Lib.hid hL
        have HX := Lib.hid hx
        have hc := hx.cst
        skip
        clear hx hK hC hL
        unfold Run
        simp [execOp, Upon, go_sem, *]
        exact HK.out _ _ (.inl ⟨Below.refl _ _, by decide⟩) rfl
      · intro L ev w' hC hL hx K hK
        have e69 := hx.held 5 _ rfl (by kernel_rfl)
        have e70 := hx.held 6 _ rfl (by kernel_rfl)
        change (Fresh wr.heap.size ps : Pred) (ev (.tmp 69)) w' at e69
        change ev (.tmp 70) = _ at e70
        have HK := Lib.hid hK
        have HC := Lib.hid hC
        have HL := Lib.hid hL
        have HX := Lib.hid hx
        have hc := hx.cst
        skip
        clear hx hK hC hL
        obtain ⟨A69, c69, q69, r69, _⟩ := e69
        have HR69 := Lib.hid r69
        have HNW := Lib.hid (heap_alloc_new w' (.cells #[.slice A69 ps.length c69, .slice (some ⟨g5, 0, none⟩) m c5] 24))
        clear r69
        unfold Run
        simp [execOp, Upon, go_sem, *]
        exact HK.out _ _ (.inl ⟨(Below.refl _ _).alloc (Nat.le_refl _) _, by decide⟩) ⟨w'.heap.size, A69, c69, rfl, HC.out.1.size, HNW.out, (HR69.out.alloc (Nat.le_refl _) _).wide (Nat.le_refl _) (by simp)⟩
      · intro L ev w' hC hL hx K hK
        have e71 := hx.held 7 _ rfl (by kernel_rfl)
        change (TwoP wr.heap.size g5 m c5 ps : Pred) (ev (.tmp 71)) w' at e71
        have HK := Lib.hid hK
        have HC := Lib.hid hC
        have HL := Lib.hid hL
        have HX := Lib.hid hx
        have hc := hx.cst
        have hf := hx.fn
        clear hx hK hC hL
        obtain ⟨g71, A71, c71, q71, b71, h71, r71⟩ := e71
        have hL10 : L 10 = false := Bool.eq_false_iff.2 fun h => by have h1 := HX.out.closed 10 _ 9 rfl h (by kernel_rfl); have h2 := HX.out.closed 9 _ 8 rfl h1 (by kernel_rfl); rw [HL.out] at h2; cases h2
        have hcg := HC.out.2
        rw [hL10] at hcg
        have hrb : Rd w' 0 w'.heap.size (some ⟨g5, 0, none⟩) (cells b0) := (rd_mid2 hcg fun k u hu => HCB.out k u hu).wide (Nat.zero_le _) (row_lt hcg)
        have hs := sum_any ⟨g71, 0, none⟩ [.slice A71 ps.length c71, .slice (some ⟨g5, 0, none⟩) m c5] [ps, b0] 2 g71 (g71 + 1) 0 w'.heap.size 2 ba w' (rd_mid2 h71 fun k u hu => by simpa using hu) (pts_cons (r71.wide (Nat.zero_le _) (Nat.le_refl _)) rfl (pts_cons hrb HLB.out pts_nil)) rfl (by decide) (by intro p hp; simp at hp; unfold maxLen; rcases hp with rfl | rfl; (· have := HPL.out; omega); (· have := HLB.out; omega)) (by rw [HBA.out]; simp)
        rw [← HSU.out] at hs
        have HS := Lib.hid hs
        clear hs hcg hrb h71 r71 hL10
        unfold Run
        simp [execOp, Upon, go_sem, *]
        refine HS.out.mono ?_
        rintro e w3 ⟨rfl, rfl⟩
        exact ⟨_, rfl, HK.out _ _ (.inl ⟨Below.refl _ _, by decide⟩) rfl⟩
      · intro L ev w' hC hL hx K hK
        have e72 := hx.held 8 _ rfl (by kernel_rfl)
        change ev (.tmp 72) = _ at e72
        have HK := Lib.hid hK
        have HC := Lib.hid hC
        have HL := Lib.hid hL
        have HX := Lib.hid hx
        have hc := hx.cst
        have hf := hx.fn
        clear hx hK hC hL
        unfold Run
        simp [execOp, Upon, go_sem, *]
        refine (spair_any S _ HS2.out).mono ?_
        rintro e w3 ⟨v, rfl, hf, hb⟩
        exact ⟨v, rfl, HK.out _ _ (.inl ⟨hb, by decide⟩) (hf.wide HC.out.1.size)⟩
      · intro L ev w' hC hL hx K hK
        have e65 := hx.held 1 _ rfl (by kernel_rfl)
        have e73 := hx.held 9 _ rfl (by kernel_rfl)
        change ev (.tmp 65) = _ at e65
        change (Fresh wr.heap.size (two S) : Pred) (ev (.tmp 73)) w' at e73
        have HK := Lib.hid hK
        have HC := Lib.hid hC
        have HL := Lib.hid hL
        have HX := Lib.hid hx
        have hc := hx.cst
        skip
        clear hx hK hC hL
        obtain ⟨A73, c73, q73, r73, _⟩ := e73
        have hC := HC.out
        rw [HL.out] at hC
        obtain ⟨hC1, hC2⟩ := hC
        replace hC2 : w'.heap[g5]? = some (.cells cur 5 (0, 0)) := hC2
        have hcp := copy_twoK (K := 16) (L := m) (c5 := c5) (c6 := c73) r73 hC2 (by omega) (by rw [HCS.out]; omega) 3
        rw [HC2.out] at hcp
        have hsz := HSZ2.out
        unfold Run
        rw [run_copyE _ _ _ _ rfl e65 q73 hcp]
        refine HK.out _ _ (.inr ⟨⟨hC1.trans (Gro.setRow hC2 _ hsz), setRow_heap _ _ _ _ _ _ hC2⟩, fun j hj hlj u hr => rl_sg (S := Gro (· = g5)) (ex := [10]) 0 (by exact ⟨.inr (is_sg _ _), .inr (is_sg _ _), .inr (is_sg _ _), .inr (is_sg _ _), .inr (is_sg _ _), .inr (fresh_st HLT.out _), .inr (is_sg _ _), .inr (twoP_st HLT.out _), .inr (is_sg _ _), .inr (fresh_st HLT.out _), .inl rfl, trivial⟩) j u _ _ (by simp; omega) (Gro.setRow hC2 _ hsz) hr⟩) rfl
    · exact rl_mono ⟨is_mono _, is_mono _, is_mono _, is_mono _, is_mono _, fresh_mono _ _, is_mono _, twoP_mono _ _ _ _ _, is_mono _, fresh_mono _ _, is_mono _, trivial⟩
    · exact fun L L' w1 he h => ⟨h.1, by rw [← he 10 (by simp)]; exact h.2⟩
    · exact fun L w1 w2 hb h => ⟨h.1.trans (Gro.of hb), (hb.block _ (row_lt h.2)).trans h.2⟩
    · exact ⟨Gro.refl _, HGR.out⟩
    · simp
    intro us3 ws hG hH
    obtain ⟨-, -, -, -, -, -, -, -, -, -, -, -⟩ := hH
    simp only [fillM]
    generalize us3 64 = v64
    generalize us3 65 = v65
    generalize us3 66 = v66
    generalize us3 67 = v67
    generalize us3 68 = v68
    generalize us3 69 = v69
    generalize us3 70 = v70
    generalize us3 71 = v71
    generalize us3 72 = v72
    generalize us3 73 = v73
    generalize us3 74 = v74
    have HWG : Hid (w.heap.size ≤ g5) := by have h1 := HG5.out; show _ ≤ _; omega
    have HB7 : Hid (Below w.heap.size w ws) := HBR.out.trans (hG.1.below (fun k hk => by rw [hk]; exact HWG.out) HBR.out.size)
    have HG7 : Hid (ws.heap[g5]? = some (.cells cur2 5 (0, 0))) := hG.2
    clear hG
    go_wp2
    go_ret2
    have hbl : bs.length = m := HBLEN.out
    have HBZ : bs = front ++ (two S ++ back) := by rw [HBY.out, List.append_assoc]
    have htk : cur2.toList.take m = cells bs := by
      have h1 := HTK.out
      rw [HB10.out] at h1
      rw [← HC2.out]
      show (splice cur.toList 16 (cells (two S))).take m = _
      rw [splice_takeK 16 (cells (two S)) h1 (by rw [← HB10.out]; exact HLB.out) HFL16.out (by rw [cells_length]; rfl), HBZ]
      simp [cells_append]
    refine ⟨some ⟨g5, 0, none⟩, c5, by rw [hbl]; rfl, ?_, HB7.out⟩
    show World.ownsRow _ _ _ _ _ _ _
    rw [hbl]
    exact ⟨by rw [cells_length, hbl, Nat.mul_one], .inr ⟨g5, c5, _, rfl, HWG.out, HG7.out, hcap1, (by unfold maxLen; omega), by rw [HSZ2.out, HCS.out, Nat.mul_one], by rw [Nat.mul_one]; exact htk⟩⟩
end Go.Proofs.Ytjgdmkmfnkaoaaa
