/-
  dgram.openDatagram: what it opens of any bytes. Every slice of at most 1000 bytes that can be read, every two hosts. No condition.
-/
import Derived.Test.YthkpkhhnlenioaaOpenE
namespace Go.Proofs.Ythkpkhhnlenioaa
open Go.RowKit

/-- a part of a slice -/
theorem run_slice_lh {P : Program} (t e : TypeId) (size : Nat) (hu : P.underlying t = some (.slice e)) (hi : (P.info? e).map (·.size) = some size) (A : Option Addr) (len cap l h : Nat) (h1 : l ≤ h) (h2 : h ≤ cap) (w : World) :
    (Instr.slice t (.slice A len cap) (some (.int .i64 (l : Int))) (some (.int .i64 (h : Int))) none).run P w = .ok (.slice (if cap = l then A else A.map (·.add (l * size))) (h - l) (cap - l)) w := by
  cases hie : P.info? e with
  | none => simp [hie] at hi
  | some ie =>
    simp only [hie, Option.map_some, Option.some.injEq] at hi
    simp [Instr.slice, run_underlying hu, Instr.sliceBounds, Instr.sliceBound, asIntOf, sizeOf, typeInfo, hie, hi, h1, h2]
theorem run_slice_h {P : Program} (t e : TypeId) (size : Nat) (hu : P.underlying t = some (.slice e)) (hi : (P.info? e).map (·.size) = some size) (A : Option Addr) (len cap h : Nat) (h2 : h ≤ cap) (w : World) :
    (Instr.slice t (.slice A len cap) none (some (.int .i64 (h : Int))) none).run P w = .ok (.slice (if cap = 0 then A else A.map (·.add (0 * size))) h cap) w := by
  cases hie : P.info? e with
  | none => simp [hie] at hi
  | some ie =>
    simp only [hie, Option.map_some, Option.some.injEq] at hi
    simp [Instr.slice, run_underlying hu, Instr.sliceBounds, Instr.sliceBound, asIntOf, sizeOf, typeInfo, hie, h2]
theorem run_sliceE {P : Program} {ev : Operand → Value} {o : Oper} {w : World} (t : TypeId) (x : Operand) (l h : Option Operand) (ho : o.op = .slice t x l h none) {e : TypeId} (hu : P.underlying t = some (.slice e)) {A : Option Addr} {n c : Nat} (hx : ev x = .slice A n c) {v : Value} (hr : (Instr.slice t (.slice A n c) (l.map ev) (h.map ev) none).run P w = .ok v w) : (execOp ev o).run P w = .ok (.value v) w := by
  unfold execOp
  simp [ho, hx, Instr.sliceAt, run_underlying hu, hr]
/-- the bytes of a part of a slice -/
theorem Rd.part {w : World} {lo hi size : Nat} {A : Option Addr} {xs : List Value} (h : Rd w lo hi A xs) (cap l n : Nat) (hc : cap = l → xs.drop (l * size) = []) : Rd w lo hi (if cap = l then A else A.map (·.add (l * size))) ((xs.drop (l * size)).take n) := by
  split
  · rename_i he
    rw [hc he]
    simpa using Rd.nil
  · exact (h.drop (l * size)).take n
def DgO (w : World) (r : Dg × Int) (e : Ending) (w' : World) : Prop :=
  ∃ m, e = .returned (.tuple #[m, .int .i64 r.2]) ∧ Below w.heap.size w w' ∧ (r.2 = 0 → ∃ cs, m = dgM cs ∧ DgC w' w.heap.size w'.heap.size cs r.1) ∧ (r.2 ≠ 0 → m = .nilIface)
theorem dgO_none {w w' : World} {r : Dg × Int} {z : Int} (h : r = (Dg.zero, z)) (hz : z ≠ 0) (hb : Below w.heap.size w w') : DgO w r (.returned (.tuple #[.nilIface, .int .i64 z])) w' := by
  subst h
  exact ⟨_, rfl, hb, fun h => absurd h hz, fun _ => rfl⟩
theorem bits_pts {w : World} {lo hi : Nat} {vs : List Value} {ps : List (List UInt8)} (h : Bits w lo hi vs ps) : Pts w lo hi vs ps :=
  ⟨h.1, fun i p hi => by obtain ⟨A, c, h1, h2, _⟩ := h.2 i p hi; exact ⟨A, c, h1, h2⟩⟩
def DgP (B : Nat) (x : Dg) : Pred := fun v w => ∃ cs, v = .agg cs ∧ DgC w B w.heap.size cs x
def DgI (B : Nat) (x : Dg) : Pred := fun v w => ∃ cs, v = dgM cs ∧ DgC w B w.heap.size cs x
theorem dgP_mono (B : Nat) (x : Dg) : Mono (DgP B x) := fun _ _ _ hb ⟨cs, h1, h2⟩ => ⟨cs, h1, (h2.below hb (Nat.le_refl _)).wide (Nat.le_refl _) hb.size⟩
theorem dgI_mono (B : Nat) (x : Dg) : Mono (DgI B x) := fun _ _ _ hb ⟨cs, h1, h2⟩ => ⟨cs, h1, (h2.below hb (Nat.le_refl _)).wide (Nat.le_refl _) hb.size⟩
theorem split_cut4 (l : List UInt8) (h : l.length < 8) : splitS l [2, 2, 2, 2] = ([], 6) := by
  have e2 : (2 : Int).toNat = 2 := rfl
  unfold splitS
  simp only [splitGo, List.length_drop, e2]
  repeat' split
  all_goals first | rfl | (exfalso; omega)
theorem split_fit4 (b0 b1 b2 b3 b4 b5 b6 b7 : UInt8) (r : List UInt8) : splitS (b0 :: b1 :: b2 :: b3 :: b4 :: b5 :: b6 :: b7 :: r) [2, 2, 2, 2] = ([[b0, b1], [b2, b3], [b4, b5], [b6, b7], r], 0) := by
  have e2 : (2 : Int).toNat = 2 := rfl
  unfold splitS
  simp only [splitGo, List.length_drop, List.length_cons, e2]
  repeat rw [if_neg (by omega)]
  rfl
set_option maxRecDepth 100000 in
set_option maxHeartbeats 1000000 in
theorem odg_short (A : Option Addr) (l : List UInt8) (n c lo hi : Nat) (s0 s1 s2 s3 d0 d1 d2 d3 : UInt8) (w : World) (hr : Rd w lo hi A (cells l)) (hn : l.length = n) (hc : n ≤ c) (hm : c ≤ maxLen) (hhi : hi ≤ w.heap.size) (hl : n ≤ 1000) (h8 : n < 8) :
    Calls Try.prog 22 #[.slice A n c, ipL s0 s1 s2 s3, ipL d0 d1 d2 d3] w (DgO w (dgOpen [s0, s1, s2, s3] [d0, d1, d2, d3] l)) := by
  obtain ⟨w0, hw0⟩ : ∃ w0, (w.alloc (.cells #[.int .u8 (s0.toNat : Int), .int .u8 (s1.toNat : Int), .int .u8 (s2.toNat : Int), .int .u8 (s3.toNat : Int)] 27)).alloc (.cells #[.int .u8 (d0.toNat : Int), .int .u8 (d1.toNat : Int), .int .u8 (d2.toNat : Int), .int .u8 (d3.toNat : Int)] 27) = w0 := ⟨_, rfl⟩
  have HB0 : Hid (Below w.heap.size w w0) := by show Below _ _ _; rw [← hw0]; exact ((Below.refl _ _).alloc (Nat.le_refl _) _).alloc (by simp) _
  have hgs : w0.heap[w.heap.size]? = some (.cells #[.int .u8 (s0.toNat : Int), .int .u8 (s1.toNat : Int), .int .u8 (s2.toNat : Int), .int .u8 (s3.toNat : Int)] 27 (0, 0)) := by rw [← hw0]; exact old_alloc (heap_alloc_new w _) _
  have hgd : w0.heap[w.heap.size + 1]? = some (.cells #[.int .u8 (d0.toNat : Int), .int .u8 (d1.toNat : Int), .int .u8 (d2.toNat : Int), .int .u8 (d3.toNat : Int)] 27 (0, 0)) := by
    have := heap_alloc_new (w.alloc (.cells #[.int .u8 (s0.toNat : Int), .int .u8 (s1.toNat : Int), .int .u8 (s2.toNat : Int), .int .u8 (s3.toNat : Int)] 27)) (.cells #[.int .u8 (d0.toNat : Int), .int .u8 (d1.toNat : Int), .int .u8 (d2.toNat : Int), .int .u8 (d3.toNat : Int)] 27)
    rw [World.size_alloc] at this
    rw [← hw0]
    exact this
  have hsz : w0.heap.size = w.heap.size + 2 := by rw [← hw0]; simp
  have hr0 := hr.below (B := w.heap.size) HB0.out hhi
  have hsp := split_any A (some ⟨w0.heap.size, 0, none⟩) l [2, 2, 2, 2] c 4 0 (w0.heap.size + 1) (w0.alloc (.cells #[.int .i64 2, .int .i64 2, .int .i64 2, .int .i64 2] 3)) ((hr0.alloc (by omega) _).wide (Nat.zero_le _) (by omega)) ((rd_new w0 [.int .i64 2, .int .i64 2, .int .i64 2, .int .i64 2] 3 (0, 0)).wide (Nat.zero_le _) (Nat.le_refl _)) (by simp) (by omega) (by simp) (by omega) hm
  rw [hn] at hsp
  have HB := Lib.hid (HB0.out.alloc HB0.out.size (.cells #[.int .i64 2, .int .i64 2, .int .i64 2, .int .i64 2] 3))
  rw [split_cut4 l (by omega)] at hsp
  have HE : Hid (dgOpen [s0, s1, s2, s3] [d0, d1, d2, d3] l = (Dg.zero, 6)) := by show _ = _; unfold dgOpen; rw [if_pos (by omega)]
  have HSP := Lib.hid hsp
  clear hsp hr hn hgs hgd hr0
  unfold ipL
  go_enter Try.func22, Try.ntmps22
  go_wp2_with fail
  rw [← hsz]
  refine HSP.out.mono ?_
  rintro e w1 ⟨A1, c1, vs, rfl, _, _, hb1⟩
  have HB1 := Lib.hid (HB.out.trans (hb1.mono HB.out.size))
  clear hb1
  go_wp2
  go_ret2
  exact dgO_none HE.out (by decide) HB1.out
set_option maxRecDepth 100000 in
set_option maxHeartbeats 4000000 in
theorem odg_long (A : Option Addr) (l : List UInt8) (n c lo hi : Nat) (s0 s1 s2 s3 d0 d1 d2 d3 : UInt8) (w : World) (hr : Rd w lo hi A (cells l)) (hn : l.length = n) (hc : n ≤ c) (hm : c ≤ maxLen) (hhi : hi ≤ w.heap.size) (hl : n ≤ 1000) (h8 : ¬ n < 8) :
    Calls Try.prog 22 #[.slice A n c, ipL s0 s1 s2 s3, ipL d0 d1 d2 d3] w (DgO w (dgOpen [s0, s1, s2, s3] [d0, d1, d2, d3] l)) := by
  obtain ⟨w0, hw0⟩ : ∃ w0, (w.alloc (.cells #[.int .u8 (s0.toNat : Int), .int .u8 (s1.toNat : Int), .int .u8 (s2.toNat : Int), .int .u8 (s3.toNat : Int)] 27)).alloc (.cells #[.int .u8 (d0.toNat : Int), .int .u8 (d1.toNat : Int), .int .u8 (d2.toNat : Int), .int .u8 (d3.toNat : Int)] 27) = w0 := ⟨_, rfl⟩
  have HB0 : Hid (Below w.heap.size w w0) := by show Below _ _ _; rw [← hw0]; exact ((Below.refl _ _).alloc (Nat.le_refl _) _).alloc (by simp) _
  have hgs : w0.heap[w.heap.size]? = some (.cells #[.int .u8 (s0.toNat : Int), .int .u8 (s1.toNat : Int), .int .u8 (s2.toNat : Int), .int .u8 (s3.toNat : Int)] 27 (0, 0)) := by rw [← hw0]; exact old_alloc (heap_alloc_new w _) _
  have hgd : w0.heap[w.heap.size + 1]? = some (.cells #[.int .u8 (d0.toNat : Int), .int .u8 (d1.toNat : Int), .int .u8 (d2.toNat : Int), .int .u8 (d3.toNat : Int)] 27 (0, 0)) := by
    have := heap_alloc_new (w.alloc (.cells #[.int .u8 (s0.toNat : Int), .int .u8 (s1.toNat : Int), .int .u8 (s2.toNat : Int), .int .u8 (s3.toNat : Int)] 27)) (.cells #[.int .u8 (d0.toNat : Int), .int .u8 (d1.toNat : Int), .int .u8 (d2.toNat : Int), .int .u8 (d3.toNat : Int)] 27)
    rw [World.size_alloc] at this
    rw [← hw0]
    exact this
  have hsz : w0.heap.size = w.heap.size + 2 := by rw [← hw0]; simp
  have hr0 := hr.below (B := w.heap.size) HB0.out hhi
  have hsp := split_any A (some ⟨w0.heap.size, 0, none⟩) l [2, 2, 2, 2] c 4 0 (w0.heap.size + 1) (w0.alloc (.cells #[.int .i64 2, .int .i64 2, .int .i64 2, .int .i64 2] 3)) ((hr0.alloc (by omega) _).wide (Nat.zero_le _) (by omega)) ((rd_new w0 [.int .i64 2, .int .i64 2, .int .i64 2, .int .i64 2] 3 (0, 0)).wide (Nat.zero_le _) (Nat.le_refl _)) (by simp) (by omega) (by simp) (by omega) hm
  rw [hn] at hsp
  have HB := Lib.hid (HB0.out.alloc HB0.out.size (.cells #[.int .i64 2, .int .i64 2, .int .i64 2, .int .i64 2] 3))
  obtain ⟨b0, b1, b2, b3, b4, b5, b6, b7, r, hle⟩ := eight l (by omega)
  have hfit := split_fit4 b0 b1 b2 b3 b4 b5 b6 b7 r
  rw [← hle] at hfit
  rw [hfit] at hsp
  have HSP := Lib.hid hsp
  have HR := Lib.hid hr0
  have HHI := Lib.hid hhi
  have HN := Lib.hid hn
  have HGS := Lib.hid hgs
  have HGD := Lib.hid hgd
  have HSZ := Lib.hid hsz
  obtain ⟨m, hmv⟩ : ∃ m, 256 * b4.toNat + b5.toNat = m := ⟨_, rfl⟩
  obtain ⟨t, htv⟩ : ∃ t, 256 * b6.toNat + b7.toNat = t := ⟨_, rfl⟩
  have hm16 : m < 65536 := by have := b4.toNat_lt; have := b5.toNat_lt; omega
  have ht16 : t < 65536 := by have := b6.toNat_lt; have := b7.toNat_lt; omega
  have HE : Hid (dgOpen [s0, s1, s2, s3] [d0, d1, d2, d3] l = if m < 8 then (Dg.zero, 7) else if n < m then (Dg.zero, 6) else if t ≠ 0 ∧ sumL (pseudoL [s0, s1, s2, s3] [d0, d1, d2, d3] m ++ l.take m) ≠ 65535 then (Dg.zero, 8) else (⟨256 * b0.toNat + b1.toNat, 256 * b2.toNat + b3.toNat, (l.take m).drop 8⟩, 0)) := by
    show _ = _
    unfold dgOpen
    have e4 : numAt l 4 = m := by rw [hle, ← hmv]; rfl
    have e6 : numAt l 6 = t := by rw [hle, ← htv]; rfl
    have e0 : numAt l 0 = 256 * b0.toNat + b1.toNat := by rw [hle]; rfl
    have e2 : numAt l 2 = 256 * b2.toNat + b3.toNat := by rw [hle]; rfl
    rw [if_neg (by omega), e4, e6, e0, e2, hn]
  have HMV := Lib.hid hmv
  have HTV := Lib.hid htv
  clear hsp hr hn hhi hfit hr0 hgs hgd hle
  unfold ipL
  go_enter Try.func22, Try.ntmps22
  go_wp2_with fail
  rw [← hsz]
  refine HSP.out.mono ?_
  rintro e w1 ⟨A1, c1, vs, rfl, hrow, hpts, hb1⟩
  obtain ⟨g, A0, c0, rfl, y0, o0⟩ := part_cell hrow hpts 0 [b0, b1] rfl
  obtain ⟨g', A2, c2, e2, y1, o1⟩ := part_cell hrow hpts 1 [b2, b3] rfl
  cases e2
  obtain ⟨g', A3, c3, e3, y2, o2⟩ := part_cell hrow hpts 2 [b4, b5] rfl
  cases e3
  obtain ⟨g', A4, c4, e4, y3, o3⟩ := part_cell hrow hpts 3 [b6, b7] rfl
  cases e4
  have HB1 := Lib.hid (HB.out.trans (hb1.mono HB.out.size))
  have HR1 := Lib.hid (HR.out.below (B := w0.heap.size) ((Below.refl _ _).alloc (Nat.le_refl _) _ |>.trans (hb1.mono (by simp))) (by have := HHI.out; have := HSZ.out; omega))
  have HGS1 : Hid (w1.heap[w.heap.size]? = some (.cells #[.int .u8 (s0.toNat : Int), .int .u8 (s1.toNat : Int), .int .u8 (s2.toNat : Int), .int .u8 (s3.toNat : Int)] 27 (0, 0))) := (hb1.block _ (by have := HSZ.out; simp; omega)).trans (old_alloc HGS.out _)
  have HGD1 : Hid (w1.heap[w.heap.size + 1]? = some (.cells #[.int .u8 (d0.toNat : Int), .int .u8 (d1.toNat : Int), .int .u8 (d2.toNat : Int), .int .u8 (d3.toNat : Int)] 27 (0, 0))) := (hb1.block _ (by have := HSZ.out; simp; omega)).trans (old_alloc HGD.out _)
  have HW1 : Hid (w.heap.size + 2 < w1.heap.size) := by have h1 := hb1.size; have h2 := HSZ.out; rw [World.size_alloc] at h1; show _ < _; omega
  have HR0 : Hid (Rd w1 0 w1.heap.size A0 (cells [b0, b1])) := (Rd.own o0).wide (Nat.zero_le _) (Nat.le_refl _)
  have HR2 : Hid (Rd w1 0 w1.heap.size A2 (cells [b2, b3])) := (Rd.own o1).wide (Nat.zero_le _) (Nat.le_refl _)
  have HR3 : Hid (Rd w1 0 w1.heap.size A3 (cells [b4, b5])) := (Rd.own o2).wide (Nat.zero_le _) (Nat.le_refl _)
  have HR4 : Hid (Rd w1 0 w1.heap.size A4 (cells [b6, b7])) := (Rd.own o3).wide (Nat.zero_le _) (Nat.le_refl _)
  clear hrow hpts hb1 o0 o1 o2 o3
  go_wp2_with fail
  refine (dword_any A3 b4 b5 c3 0 w1.heap.size w1 HR3.out).mono ?_
  rw [HMV.out]
  rintro e w2 ⟨rfl, rfl⟩
  have hc63 : (n : Int) ≤ 1000 := by omega
  clear hmv htv hsz hw0
  by_cases m8 : m < 8
  · have HE2 := Lib.hid (HE.out.trans (if_pos m8))
    go_wp2
    go_ret2
    exact dgO_none HE2.out (by decide) HB1.out
  · have HE2 := Lib.hid (HE.out.trans (if_neg m8))
    by_cases mn : n < m
    · have HE3 := Lib.hid (HE2.out.trans (if_pos mn))
      go_wp2
      go_ret2
      exact dgO_none HE3.out (by decide) HB1.out
    · have HE3 := Lib.hid (HE2.out.trans (if_neg mn))
      obtain ⟨ad, rfl⟩ : ∃ ad, A = some ad := by
        obtain ⟨ad, e, _⟩ := HR1.out.byte (k := 0) (by rw [HN.out]; omega)
        exact ⟨ad, e⟩
      have hmn : m ≤ n := by omega
      have hmc : (m : Int) ≤ (c : Int) := by omega
      have hm8 : (8 : Int) ≤ (m : Int) := by omega
      have HTK : Hid ((l.take m).length = m) := by show _ = _; rw [List.length_take, HN.out]; omega
      have HAD0 : Hid ((if c = 0 then some ad else (some ad).map (·.add (0 * 1))) = some ad) := by
        show _ = _
        rw [if_neg (by omega), Option.map_some, Nat.zero_mul]
        simp [Addr.add]
      obtain ⟨ad2, had2⟩ : ∃ ad2, (if c = 8 then some ad else (some ad).map (·.add (8 * 1))) = some ad2 := by
        split
        · exact ⟨_, rfl⟩
        · exact ⟨_, rfl⟩
      have hpart : Rd w1 lo hi (some ad2) (cells ((l.take m).drop 8)) := by
        have := HR1.out.part (size := 1) c 8 (m - 8) (fun h => by rw [List.drop_eq_nil_of_le]; rw [cells_length, HN.out]; omega)
        rw [had2] at this
        rw [List.drop_take, ← cells_take, ← cells_drop]
        exact this
      have HAD2 := Lib.hid had2
      have HDL : Hid (((l.take m).drop 8).length = m - 8) := by show _ = _; rw [List.length_drop, HTK.out]
      have hhi1 : hi ≤ w1.heap.size := by have := HHI.out; have := HW1.out; omega
      have HHX1 := Lib.hid hhi1
      have HRX1 := Lib.hid hpart
      have HRD : Hid (∀ w', Gro (fun _ => False) w1 w' → Rd w' 0 w'.heap.size (some ad) (cells l)) := fun w' hg => (HR1.out.below hg.belowF hhi1).wide (Nat.zero_le _) (Nat.le_trans hhi1 hg.size)
      have HGSW : Hid (∀ w', Gro (fun _ => False) w1 w' → w'.heap[w.heap.size]? = some (.cells #[.int .u8 (s0.toNat : Int), .int .u8 (s1.toNat : Int), .int .u8 (s2.toNat : Int), .int .u8 (s3.toNat : Int)] 27 (0, 0))) := fun w' hg => (hg.block _ (row_lt HGS1.out) (fun h => h)).trans HGS1.out
      have HGDW : Hid (∀ w', Gro (fun _ => False) w1 w' → w'.heap[w.heap.size + 1]? = some (.cells #[.int .u8 (d0.toNat : Int), .int .u8 (d1.toNat : Int), .int .u8 (d2.toNat : Int), .int .u8 (d3.toNat : Int)] 27 (0, 0))) := fun w' hg => (hg.block _ (row_lt HGD1.out) (fun h => h)).trans HGD1.out
      have hcell : ∀ (p : Addr) (v : Value), w1.cell? p = some v → ∀ w', Gro (fun _ => False) w1 w' → w'.cell? p = some v := fun p v h w' hg => (hg.belowF.cell (block_lt_of_cell h)).trans h
      have K0 := Lib.hid (hcell _ _ y0)
      have K1 := Lib.hid (hcell _ _ y1)
      have K3 := Lib.hid (hcell _ _ y3)
      obtain ⟨pl, hpl⟩ : ∃ pl, [s0, s1, s2, s3] ++ [d0, d1, d2, d3] ++ [0, 17] ++ two m = pl := ⟨_, rfl⟩
      have HPL := Lib.hid hpl
      have HPLL : Hid (pl.length = 12) := by show _ = _; rw [← hpl]; rfl
      have HE4 : Hid (dgOpen [s0, s1, s2, s3] [d0, d1, d2, d3] l = if t ≠ 0 ∧ sumL (pl ++ l.take m) ≠ 65535 then (Dg.zero, 8) else (⟨256 * b0.toNat + b1.toNat, 256 * b2.toNat + b3.toNat, (l.take m).drop 8⟩, 0)) := by
        show _ = _
        rw [← hpl]
        exact HE3.out
      have u0 := b0.toNat_lt
      have u1 := b1.toNat_lt
      have u2 := b2.toNat_lt
      have u3 := b3.toNat_lt
      clear hpart had2 hcell hpl y0 y1 y2 y3
      go_wp2_with fail
      by_cases ht0 : t = 0
      · have q5 := bneF (show (t : Int) = 0 by omega)
        have HE5 := Lib.hid (HE4.out.trans (if_neg (fun h => h.1 ht0)))
        clear HE HE2 HE3 HE4
        apply wp_region_relyQ (fun i => !(List.contains [6, 7, 8, 9, 10, 11, 12, 13, 14, 15] i)) (fun _ => False) (RL [Is _, Is _, Is _, Is (.int .u16 (t : Int)), Is (.bool false), Is (.bool false), Is undef, Is undef, Is undef, Is undef, Is undef, Is undef, Is undef, Is undef, Is undef, Is undef, Is (.bool false)]) [false, false, false, false, false, false, false, false, false, false, false, false, false, false, false, false, false, false, false, false, false, false, false, false, false, false, false, false, false, false, false, true, true, true, true, true, true, true, true, true, true, true, true, true, true, true, true, true, false, false, false, false, false, false, false, false, false, false, false, false, false, false]
        · kernel_rfl
        · kernel_rfl
        · kernel_rfl
        · refine ⟨?_, ?_, ?_, ?_, ?_, ?_, ?_, ?_, ?_, ?_, ?_, ?_, ?_, ?_, ?_, ?_, ?_, trivial⟩
          · refine ⟨rfl, ?_⟩
            refine (if_pos (by decide)).mpr ?_
            intro ev w' hC hc hf hb hr K hK
            have e8 : ev (.tmp 8) = _ := hb 8 (by kernel_rfl)
            have HK := Lib.hid hK
            have HC := Lib.hid hC
            clear hb hr hK hC hf
            unfold Run
            simp [execOp, Upon, go_sem, *]
            exact HK.out _ _ (.inl (Below.refl _ _)) rfl
          · refine ⟨rfl, ?_⟩
            refine (if_pos (by decide)).mpr ?_
            intro ev w' hC hc hf hb hr K hK
            have e31 := hr 0 _ rfl (by kernel_rfl)
            change ev (.tmp 31) = _ at e31
            have HK := Lib.hid hK
            have HC := Lib.hid hC
            clear hb hr hK hC hf
            unfold Run
            simp [execOp, Upon, go_sem, *]
            exact HK.out _ _ (.inl (Below.refl _ _)) rfl
          · refine ⟨rfl, ?_⟩
            refine (if_pos (by decide)).mpr ?_
            intro ev w' hC hc hf hb hr K hK
            have e32 := hr 1 _ rfl (by kernel_rfl)
            change ev (.tmp 32) = _ at e32
            have HK := Lib.hid hK
            have HC := Lib.hid hC
            clear hb hr hK hC hf
            have c33 := K3.out w' HC.out
            unfold Run
            simp [execOp, Upon, go_sem, *]
            exact HK.out _ _ (.inl (Below.refl _ _)) rfl
          · refine ⟨rfl, ?_⟩
            refine (if_pos (by decide)).mpr ?_
            intro ev w' hC hc hf hb hr K hK
            have e33 := hr 2 _ rfl (by kernel_rfl)
            change ev (.tmp 33) = _ at e33
            have HK := Lib.hid hK
            have HC := Lib.hid hC
            clear hb hr hK hC
            unfold Run
            simp [execOp, Upon, go_sem, *]
            refine (word_at A4 b6 b7 c4 0 w1.heap.size w' (HR4.out.below HC.out.belowF (Nat.le_refl _))).mono ?_
            rw [HTV.out]
            rintro e w2 ⟨rfl, rfl⟩
            exact ⟨_, rfl, HK.out _ _ (.inl (Below.refl _ _)) rfl⟩
          · refine ⟨rfl, ?_⟩
            refine (if_pos (by decide)).mpr ?_
            intro ev w' hC hc hf hb hr K hK
            have e34 := hr 3 _ rfl (by kernel_rfl)
            change ev (.tmp 34) = _ at e34
            have HK := Lib.hid hK
            have HC := Lib.hid hC
            clear hb hr hK hC hf
            unfold Run
            simp [execOp, Upon, go_sem, *]
            exact HK.out _ _ (.inl (Below.refl _ _)) rfl
          · refine ⟨rfl, ?_⟩
            refine (if_pos (by decide)).mpr ?_
            intro ev w' hC hc hf hb hr K hK
            have e35 := hr 4 _ rfl (by kernel_rfl)
            change ev (.tmp 35) = _ at e35
            have HK := Lib.hid hK
            have HC := Lib.hid hC
            clear hb hr hK hC hf
            unfold Run
            simp [execOp, Upon, go_sem, *]
            exact HK.out _ _ (.inl (Below.refl _ _)) rfl
          · exact ⟨⟨_, _, rfl, rfl, fun v w h => h⟩, (if_neg (by decide)).mpr fun w => rfl⟩
          · exact ⟨⟨_, _, rfl, rfl, fun v w h => h⟩, (if_neg (by decide)).mpr fun w => rfl⟩
          · exact ⟨⟨_, _, rfl, rfl, fun v w h => h⟩, (if_neg (by decide)).mpr fun w => rfl⟩
          · exact ⟨⟨_, _, rfl, rfl, fun v w h => h⟩, (if_neg (by decide)).mpr fun w => rfl⟩
          · exact ⟨⟨_, _, rfl, rfl, fun v w h => h⟩, (if_neg (by decide)).mpr fun w => rfl⟩
          · exact ⟨⟨_, _, rfl, rfl, fun v w h => h⟩, (if_neg (by decide)).mpr fun w => rfl⟩
          · exact ⟨⟨_, _, rfl, rfl, fun v w h => h⟩, (if_neg (by decide)).mpr fun w => rfl⟩
          · exact ⟨⟨_, _, rfl, rfl, fun v w h => h⟩, (if_neg (by decide)).mpr fun w => rfl⟩
          · exact ⟨⟨_, _, rfl, rfl, fun v w h => h⟩, (if_neg (by decide)).mpr fun w => rfl⟩
          · exact ⟨⟨_, _, rfl, rfl, fun v w h => h⟩, (if_neg (by decide)).mpr fun w => rfl⟩
          · refine ⟨rfl, ?_⟩
            refine (if_pos (by decide)).mpr ?_
            intro ev w' hC hc hf hb hr K hK
            have e36 := hr 5 _ rfl (by kernel_rfl)
            have e46 := hr 15 _ rfl (by kernel_rfl)
            change ev (.tmp 36) = _ at e36
            change ev (.tmp 46) = _ at e46
            have HK := Lib.hid hK
            have HC := Lib.hid hC
            clear hb hr hK hC hf
            unfold Run
            simp [execOp, Upon, go_sem, *]
            exact HK.out _ _ (.inl (Below.refl _ _)) rfl
        · exact rl_mono ⟨is_mono _, is_mono _, is_mono _, is_mono _, is_mono _, is_mono _, is_mono _, is_mono _, is_mono _, is_mono _, is_mono _, is_mono _, is_mono _, is_mono _, is_mono _, is_mono _, is_mono _, trivial⟩
        intro us wq hG hH
        obtain ⟨-, -, -, -, -, -, -, -, -, -, -, -, -, -, -, -, h16, -⟩ := hH
        simp only [fillM]
        change us 47 = _ at h16
        rw [h16]
        clear h16
        generalize us 31 = v31
        generalize us 32 = v32
        generalize us 33 = v33
        generalize us 34 = v34
        generalize us 35 = v35
        generalize us 36 = v36
        generalize us 37 = v37
        generalize us 38 = v38
        generalize us 39 = v39
        generalize us 40 = v40
        generalize us 41 = v41
        generalize us 42 = v42
        generalize us 43 = v43
        generalize us 44 = v44
        generalize us 45 = v45
        generalize us 46 = v46
        have HB3 : Hid (Below w.heap.size w wq) := HB1.out.trans (hG.belowF.mono HB1.out.size)
        have c0q := K0.out wq hG
        have c1q := K1.out wq hG
        have K0 : Hid (∀ w', Gro (fun _ => False) wq w' → w'.cell? ⟨g, 0, none⟩ = some (.slice A0 2 c0)) := fun w' hg => (hg.belowF.cell (block_lt_of_cell c0q)).trans c0q
        have K1 : Hid (∀ w', Gro (fun _ => False) wq w' → w'.cell? ⟨g, 1, none⟩ = some (.slice A2 2 c2)) := fun w' hg => (hg.belowF.cell (block_lt_of_cell c1q)).trans c1q
        have HR0 := Lib.hid ((HR0.out.below hG.belowF (Nat.le_refl _)).wide (Nat.le_refl _) hG.size)
        have HR2 := Lib.hid ((HR2.out.below hG.belowF (Nat.le_refl _)).wide (Nat.le_refl _) hG.size)
        have HHX : Hid (∀ w', Gro (fun _ => False) wq w' → hi ≤ w'.heap.size) := fun w' hg => Nat.le_trans HHX1.out (Nat.le_trans hG.size hg.size)
        have HRX : Hid (∀ w', Gro (fun _ => False) wq w' → Rd w' lo hi (some ad2) (cells ((l.take m).drop 8))) := fun w' hg => (HRX1.out.below hG.belowF HHX1.out).below hg.belowF (Nat.le_trans HHX1.out hG.size)
        clear hG c0q c1q
        go_wp2_with fail
        apply wp_region_rely (fun _ => False) (RL [Is _, Is _, Is _, Is (.int .u16 ((256 * b0.toNat + b1.toNat : Nat) : Int)), Is _, Is _, Is _, Is (.int .u16 ((256 * b2.toNat + b3.toNat : Nat) : Int)), Is _, Is _, Is (.slice (some ad2) (m - 8) (c - 8)), Fresh wq.heap.size ((l.take m).drop 8), DgP wq.heap.size ⟨256 * b0.toNat + b1.toNat, 256 * b2.toNat + b3.toNat, (l.take m).drop 8⟩, DgI wq.heap.size ⟨256 * b0.toNat + b1.toNat, 256 * b2.toNat + b3.toNat, (l.take m).drop 8⟩, DgI wq.heap.size ⟨256 * b0.toNat + b1.toNat, 256 * b2.toNat + b3.toNat, (l.take m).drop 8⟩, Is _]) [false, false, false, false, false, false, true, true, false, false, false, false, false, false, false, false, false, false, false, false, false, false, false, false, false, false, false, false, false, false, false, false, false, false, false, false, false, false, false, false, false, false, false, false, false, false, false, false, true, true, true, true, true, true, true, true, true, true, true, true, true, true]
        · kernel_rfl
        · kernel_rfl
        · kernel_rfl
        · refine ⟨?_, ?_, ?_, ?_, ?_, ?_, ?_, ?_, ?_, ?_, ?_, ?_, ?_, ?_, ?_, ?_, trivial⟩
          · intro ev w' hC hc hf hb hr K hK
            have e8 : ev (.tmp 8) = _ := hb 8 (by kernel_rfl)
            have HK := Lib.hid hK
            have HC := Lib.hid hC
            clear hb hr hK hC hf
            unfold Run
            simp [execOp, Upon, go_sem, *]
            exact HK.out _ _ (.inl (Below.refl _ _)) rfl
          · intro ev w' hC hc hf hb hr K hK
            have e48 := hr 0 _ rfl (by kernel_rfl)
            change ev (.tmp 48) = _ at e48
            have HK := Lib.hid hK
            have HC := Lib.hid hC
            clear hb hr hK hC hf
            unfold Run
            simp [execOp, Upon, go_sem, *]
            exact HK.out _ _ (.inl (Below.refl _ _)) rfl
          · intro ev w' hC hc hf hb hr K hK
            have e49 := hr 1 _ rfl (by kernel_rfl)
            change ev (.tmp 49) = _ at e49
            have HK := Lib.hid hK
            have HC := Lib.hid hC
            clear hb hr hK hC hf
            have c50 := K0.out w' HC.out
            unfold Run
            simp [execOp, Upon, go_sem, *]
            exact HK.out _ _ (.inl (Below.refl _ _)) rfl
          · intro ev w' hC hc hf hb hr K hK
            have e50 := hr 2 _ rfl (by kernel_rfl)
            change ev (.tmp 50) = _ at e50
            have HK := Lib.hid hK
            have HC := Lib.hid hC
            clear hb hr hK hC
            unfold Run
            simp [execOp, Upon, go_sem, *]
            refine (word_at A0 b0 b1 c0 0 wq.heap.size w' (HR0.out.below HC.out.belowF (Nat.le_refl _))).mono ?_
            rintro e w2 ⟨rfl, rfl⟩
            exact ⟨_, rfl, HK.out _ _ (.inl (Below.refl _ _)) rfl⟩
          · intro ev w' hC hc hf hb hr K hK
            have e8 : ev (.tmp 8) = _ := hb 8 (by kernel_rfl)
            have HK := Lib.hid hK
            have HC := Lib.hid hC
            clear hb hr hK hC hf
            unfold Run
            simp [execOp, Upon, go_sem, *]
            exact HK.out _ _ (.inl (Below.refl _ _)) rfl
          · intro ev w' hC hc hf hb hr K hK
            have e52 := hr 4 _ rfl (by kernel_rfl)
            change ev (.tmp 52) = _ at e52
            have HK := Lib.hid hK
            have HC := Lib.hid hC
            clear hb hr hK hC hf
            unfold Run
            simp [execOp, Upon, go_sem, *]
            exact HK.out _ _ (.inl (Below.refl _ _)) rfl
          · intro ev w' hC hc hf hb hr K hK
            have e53 := hr 5 _ rfl (by kernel_rfl)
            change ev (.tmp 53) = _ at e53
            have HK := Lib.hid hK
            have HC := Lib.hid hC
            clear hb hr hK hC hf
            have c54 := K1.out w' HC.out
            unfold Run
            simp [execOp, Upon, go_sem, *]
            exact HK.out _ _ (.inl (Below.refl _ _)) rfl
          · intro ev w' hC hc hf hb hr K hK
            have e54 := hr 6 _ rfl (by kernel_rfl)
            change ev (.tmp 54) = _ at e54
            have HK := Lib.hid hK
            have HC := Lib.hid hC
            clear hb hr hK hC
            unfold Run
            simp [execOp, Upon, go_sem, *]
            refine (word_at A2 b2 b3 c2 0 wq.heap.size w' (HR2.out.below HC.out.belowF (Nat.le_refl _))).mono ?_
            rintro e w2 ⟨rfl, rfl⟩
            exact ⟨_, rfl, HK.out _ _ (.inl (Below.refl _ _)) rfl⟩
          · intro ev w' hC hc hf hb hr K hK
            have e0 : ev (.tmp 0) = _ := hb 0 (by kernel_rfl)
            have HK := Lib.hid hK
            have HC := Lib.hid hC
            clear hb hr hK hC hf
            unfold Run
            simp [execOp, Upon, go_sem, *]
            exact HK.out _ _ (.inl (Below.refl _ _)) rfl
          · intro ev w' hC hc hf hb hr K hK
            have e10 : ev (.tmp 10) = _ := hb 10 (by kernel_rfl)
            have HK := Lib.hid hK
            have HC := Lib.hid hC
            clear hb hr hK hC hf
            unfold Run
            simp [execOp, Upon, go_sem, *]
            exact HK.out _ _ (.inl (Below.refl _ _)) rfl
          · intro ev w' hC hc hf hb hr K hK
            have e56 := hr 8 _ rfl (by kernel_rfl)
            have e57 := hr 9 _ rfl (by kernel_rfl)
            change ev (.tmp 56) = _ at e56
            change ev (.tmp 57) = _ at e57
            have HK := Lib.hid hK
            have HC := Lib.hid hC
            clear hb hr hK hC hf
            have hrun := run_slice_lh (P := Try.prog) 23 5 1 Try.underlying23 (by kernel_rfl) (some ad) n c 8 m (by omega) (by omega) w'
            rw [HAD2.out] at hrun
            unfold Run
            rw [run_sliceE 23 _ (some _) (some _) rfl Try.underlying23 e56 (by simp only [Option.map_some, hc, e57]; exact hrun)]
            exact HK.out _ _ (.inl (Below.refl _ _)) rfl
          · intro ev w' hC hc hf hb hr K hK
            have e58 := hr 10 _ rfl (by kernel_rfl)
            change ev (.tmp 58) = _ at e58
            have HK := Lib.hid hK
            have HC := Lib.hid hC
            clear hb hr hK hC
            have hcl := clone_some ad2 ((l.take m).drop 8) (c - 8) lo hi w' (HRX.out w' HC.out) (HHX.out w' HC.out) (by rw [HDL.out]; omega)
            rw [HDL.out] at hcl
            have HCL := Lib.hid hcl
            clear hcl
            unfold Run
            simp [execOp, Upon, go_sem, *]
            refine HCL.out.mono ?_
            rintro e w2 ⟨v, rfl, hf, hb⟩
            exact ⟨v, rfl, HK.out _ _ (.inl hb) (hf.wide HC.out.size)⟩
          · intro ev w' hC hc hf hb hr K hK
            have e51 := hr 3 _ rfl (by kernel_rfl)
            have e55 := hr 7 _ rfl (by kernel_rfl)
            have e59 := hr 11 _ rfl (by kernel_rfl)
            change ev (.tmp 51) = _ at e51
            change ev (.tmp 55) = _ at e55
            change (Fresh wq.heap.size ((l.take m).drop 8) : Pred) (ev (.tmp 59)) _ at e59
            have HK := Lib.hid hK
            have HC := Lib.hid hC
            clear hb hr hK hC hf
            obtain ⟨A59, c59, q59, r59, z59, l59, m59⟩ := e59
            rw [HDL.out] at q59 l59
            have HZ := Lib.hid (And.intro r59 (And.intro l59 (And.intro m59 z59)))
            clear r59 z59 l59 m59
            unfold Run
            simp [execOp, Upon, go_sem, *]
            refine HK.out _ _ (.inl (Below.refl _ _)) ⟨_, rfl, A59, c59, by rw [HDL.out]; rfl, ⟨by show 256 * b0.toNat + b1.toNat < 65536; omega, by show 256 * b2.toNat + b3.toNat < 65536; omega⟩, HZ.out.1, ?_, HZ.out.2.2.1, HZ.out.2.2.2⟩
            show List.length _ ≤ _
            rw [HDL.out]
            exact HZ.out.2.1
          · intro ev w' hC hc hf hb hr K hK
            have e60 := hr 12 _ rfl (by kernel_rfl)
            change (DgP wq.heap.size ⟨256 * b0.toNat + b1.toNat, 256 * b2.toNat + b3.toNat, (l.take m).drop 8⟩ : Pred) (ev (.tmp 60)) _ at e60
            have HK := Lib.hid hK
            have HC := Lib.hid hC
            clear hb hr hK hC hf
            obtain ⟨cs, q60, r60⟩ := e60
            have HZ := Lib.hid r60
            clear r60
            unfold Run
            simp [execOp, Upon, go_sem, *]
            exact HK.out _ _ (.inl (Below.refl _ _)) ⟨cs, rfl, HZ.out⟩
          · intro ev w' hC hc hf hb hr K hK
            have e61 := hr 13 _ rfl (by kernel_rfl)
            change (DgI wq.heap.size ⟨256 * b0.toNat + b1.toNat, 256 * b2.toNat + b3.toNat, (l.take m).drop 8⟩ : Pred) (ev (.tmp 61)) _ at e61
            have HK := Lib.hid hK
            have HC := Lib.hid hC
            clear hb hr hK hC hf
            obtain ⟨cs, q61, r60⟩ := e61
            have HZ := Lib.hid r60
            clear r60
            unfold Run
            simp [execOp, Upon, go_sem, *]
            exact HK.out _ _ (.inl (Below.refl _ _)) ⟨cs, rfl, HZ.out⟩
          · intro ev w' hC hc hf hb hr K hK
            have HK := Lib.hid hK
            have HC := Lib.hid hC
            clear hb hr hK hC hf
            unfold Run
            simp [execOp, Upon, go_sem, *]
            exact HK.out _ _ (.inl (Below.refl _ _)) rfl
        · exact rl_mono ⟨is_mono _, is_mono _, is_mono _, is_mono _, is_mono _, is_mono _, is_mono _, is_mono _, is_mono _, is_mono _, is_mono _, fresh_mono _ _, dgP_mono _ _, dgI_mono _ _, dgI_mono _ _, is_mono _, trivial⟩
        intro us wr hG hH
        obtain ⟨-, -, -, -, -, -, -, -, -, -, -, -, -, -, h14, h15, -⟩ := hH
        simp only [fillM]
        change (DgI wq.heap.size ⟨256 * b0.toNat + b1.toNat, 256 * b2.toNat + b3.toNat, (l.take m).drop 8⟩ : Pred) (us 6) wr at h14
        change us 7 = _ at h15
        rw [h15]
        clear h15
        generalize us 48 = v48
        generalize us 49 = v49
        generalize us 50 = v50
        generalize us 51 = v51
        generalize us 52 = v52
        generalize us 53 = v53
        generalize us 54 = v54
        generalize us 55 = v55
        generalize us 56 = v56
        generalize us 57 = v57
        generalize us 58 = v58
        generalize us 59 = v59
        generalize us 60 = v60
        generalize us 61 = v61
        generalize us 6 = v6 at h14 ⊢
        obtain ⟨cs, h14a, h14b⟩ := h14
        have HB4 := Lib.hid (HB3.out.trans (hG.belowF.mono HB3.out.size))
        have HD4 := Lib.hid (h14b.wide HB3.out.size (Nat.le_refl _))
        subst h14a
        clear h14b hG
        go_wp2
        go_ret2
        rw [HE5.out]
        exact ⟨_, rfl, HB4.out, fun _ => ⟨cs, rfl, HD4.out⟩, fun h => absurd rfl h⟩
      · have q5 := bneT (show (t : Int) ≠ 0 by omega)
        by_cases hs : sumL (pl ++ l.take m) = 65535
        · have HE5 := Lib.hid (HE4.out.trans (if_neg (fun h => h.2 hs)))
          have HRS : Hid ((((sumL (pl ++ l.take m) : Nat) : Int) == 65535) = true) := beqT (by omega)
          clear HE HE2 HE3 HE4
          apply wp_region_relyQ (fun _ => true) (fun _ => False) (RL [Is _, Is _, Is _, Is (.int .u16 (t : Int)), Is (.bool true), Is (.bool true), Is (.agg #[.int .u8 (s0.toNat : Int), .int .u8 (s1.toNat : Int), .int .u8 (s2.toNat : Int), .int .u8 (s3.toNat : Int)]), Is (.agg #[.int .u8 (d0.toNat : Int), .int .u8 (d1.toNat : Int), .int .u8 (d2.toNat : Int), .int .u8 (d3.toNat : Int)]), Is _, Owned w1.heap.size pl, Is (.slice (some ad) n c), Is (.int .i64 (m : Int)), Is (.slice (some ad) m c), Lists [pl, l.take m], Is (.bool true), Is (.bool false), Is (.bool false)]) [false, false, false, false, false, false, false, false, false, false, false, false, false, false, false, false, false, false, false, false, false, false, false, false, false, false, false, false, false, false, false, true, true, true, true, true, true, true, true, true, true, true, true, true, true, true, true, true, false, false, false, false, false, false, false, false, false, false, false, false, false, false]
          · kernel_rfl
          · kernel_rfl
          · kernel_rfl
          · refine ⟨?_, ?_, ?_, ?_, ?_, ?_, ?_, ?_, ?_, ?_, ?_, ?_, ?_, ?_, ?_, ?_, ?_, trivial⟩
            · refine ⟨rfl, ?_⟩
              refine (if_pos (by decide)).mpr ?_
              intro ev w' hC hc hf hb hr K hK
              have e8 : ev (.tmp 8) = _ := hb 8 (by kernel_rfl)
              have HK := Lib.hid hK
              have HC := Lib.hid hC
              clear hb hr hK hC hf
              unfold Run
              simp [execOp, Upon, go_sem, *]
              exact HK.out _ _ (.inl (Below.refl _ _)) rfl
            · refine ⟨rfl, ?_⟩
              refine (if_pos (by decide)).mpr ?_
              intro ev w' hC hc hf hb hr K hK
              have e31 := hr 0 _ rfl (by kernel_rfl)
              change ev (.tmp 31) = _ at e31
              have HK := Lib.hid hK
              have HC := Lib.hid hC
              clear hb hr hK hC hf
              unfold Run
              simp [execOp, Upon, go_sem, *]
              exact HK.out _ _ (.inl (Below.refl _ _)) rfl
            · refine ⟨rfl, ?_⟩
              refine (if_pos (by decide)).mpr ?_
              intro ev w' hC hc hf hb hr K hK
              have e32 := hr 1 _ rfl (by kernel_rfl)
              change ev (.tmp 32) = _ at e32
              have HK := Lib.hid hK
              have HC := Lib.hid hC
              clear hb hr hK hC hf
              have c33 := K3.out w' HC.out
              unfold Run
              simp [execOp, Upon, go_sem, *]
              exact HK.out _ _ (.inl (Below.refl _ _)) rfl
            · refine ⟨rfl, ?_⟩
              refine (if_pos (by decide)).mpr ?_
              intro ev w' hC hc hf hb hr K hK
              have e33 := hr 2 _ rfl (by kernel_rfl)
              change ev (.tmp 33) = _ at e33
              have HK := Lib.hid hK
              have HC := Lib.hid hC
              clear hb hr hK hC
              unfold Run
              simp [execOp, Upon, go_sem, *]
              refine (word_at A4 b6 b7 c4 0 w1.heap.size w' (HR4.out.below HC.out.belowF (Nat.le_refl _))).mono ?_
              rw [HTV.out]
              rintro e w2 ⟨rfl, rfl⟩
              exact ⟨_, rfl, HK.out _ _ (.inl (Below.refl _ _)) rfl⟩
            · refine ⟨rfl, ?_⟩
              refine (if_pos (by decide)).mpr ?_
              intro ev w' hC hc hf hb hr K hK
              have e34 := hr 3 _ rfl (by kernel_rfl)
              change ev (.tmp 34) = _ at e34
              have HK := Lib.hid hK
              have HC := Lib.hid hC
              clear hb hr hK hC hf
              unfold Run
              simp [execOp, Upon, go_sem, *]
              exact HK.out _ _ (.inl (Below.refl _ _)) rfl
            · refine ⟨rfl, ?_⟩
              refine (if_pos (by decide)).mpr ?_
              intro ev w' hC hc hf hb hr K hK
              have e35 := hr 4 _ rfl (by kernel_rfl)
              change ev (.tmp 35) = _ at e35
              have HK := Lib.hid hK
              have HC := Lib.hid hC
              clear hb hr hK hC hf
              unfold Run
              simp [execOp, Upon, go_sem, *]
              exact HK.out _ _ (.inl (Below.refl _ _)) rfl
            · refine ⟨⟨_, _, rfl, rfl, fun v w h => h⟩, ?_⟩
              refine (if_pos (by decide)).mpr ?_
              intro ev w' hC hc hf hb hr K hK
              have e4 : ev (.tmp 4) = _ := hb 4 (by kernel_rfl)
              have HK := Lib.hid hK
              have HC := Lib.hid hC
              clear hb hr hK hC hf
              have q1 : ev (.tmp 4) = .pointer (some ⟨w.heap.size, 0, none⟩) := e4
              have hld := run_loadVar_row (P := Try.prog) w' (w.heap.size) 27 27 #[.int .u8 (s0.toNat : Int), .int .u8 (s1.toNat : Int), .int .u8 (s2.toNat : Int), .int .u8 (s3.toNat : Int)] (0, 0) _ (HGSW.out w' HC.out) Try.underlying27 rfl (by kernel_rfl)
              unfold Run
              rw [run_loadE 27 _ rfl q1 hld]
              exact HK.out _ _ (.inl (Below.refl _ _)) rfl
            · refine ⟨⟨_, _, rfl, rfl, fun v w h => h⟩, ?_⟩
              refine (if_pos (by decide)).mpr ?_
              intro ev w' hC hc hf hb hr K hK
              have e5 : ev (.tmp 5) = _ := hb 5 (by kernel_rfl)
              have HK := Lib.hid hK
              have HC := Lib.hid hC
              clear hb hr hK hC hf
              have q1 : ev (.tmp 5) = .pointer (some ⟨w.heap.size + 1, 0, none⟩) := e5
              have hld := run_loadVar_row (P := Try.prog) w' (w.heap.size + 1) 27 27 #[.int .u8 (d0.toNat : Int), .int .u8 (d1.toNat : Int), .int .u8 (d2.toNat : Int), .int .u8 (d3.toNat : Int)] (0, 0) _ (HGDW.out w' HC.out) Try.underlying27 rfl (by kernel_rfl)
              unfold Run
              rw [run_loadE 27 _ rfl q1 hld]
              exact HK.out _ _ (.inl (Below.refl _ _)) rfl
            · refine ⟨⟨_, _, rfl, rfl, fun v w h => h⟩, ?_⟩
              refine (if_pos (by decide)).mpr ?_
              intro ev w' hC hc hf hb hr K hK
              have e10 : ev (.tmp 10) = _ := hb 10 (by kernel_rfl)
              have HK := Lib.hid hK
              have HC := Lib.hid hC
              clear hb hr hK hC hf
              unfold Run
              simp [execOp, Upon, go_sem, *]
              exact HK.out _ _ (.inl (Below.refl _ _)) rfl
            · refine ⟨⟨_, _, rfl, rfl, fun v w h => h⟩, ?_⟩
              refine (if_pos (by decide)).mpr ?_
              intro ev w' hC hc hf hb hr K hK
              have e37 := hr 6 _ rfl (by kernel_rfl)
              have e38 := hr 7 _ rfl (by kernel_rfl)
              have e39 := hr 8 _ rfl (by kernel_rfl)
              change ev (.tmp 37) = _ at e37
              change ev (.tmp 38) = _ at e38
              change ev (.tmp 39) = _ at e39
              have HK := Lib.hid hK
              have HC := Lib.hid hC
              clear hb hr hK hC
              unfold Run
              simp [execOp, Upon, go_sem, *]
              have hps := pseudo_any s0 s1 s2 s3 d0 d1 d2 d3 17 m w'
              rw [HPL.out] at hps
              refine hps.mono ?_
              rintro e w2 ⟨A2', c2', rfl, ho, hb⟩
              exact ⟨_, rfl, HK.out _ _ (.inl hb) ⟨A2', c2', rfl, own_base ho HC.out.size⟩⟩
            · refine ⟨⟨_, _, rfl, rfl, fun v w h => h⟩, ?_⟩
              refine (if_pos (by decide)).mpr ?_
              intro ev w' hC hc hf hb hr K hK
              have e0 : ev (.tmp 0) = _ := hb 0 (by kernel_rfl)
              have HK := Lib.hid hK
              have HC := Lib.hid hC
              clear hb hr hK hC hf
              unfold Run
              simp [execOp, Upon, go_sem, *]
              exact HK.out _ _ (.inl (Below.refl _ _)) rfl
            · refine ⟨⟨_, _, rfl, rfl, fun v w h => h⟩, ?_⟩
              refine (if_pos (by decide)).mpr ?_
              intro ev w' hC hc hf hb hr K hK
              have e10 : ev (.tmp 10) = _ := hb 10 (by kernel_rfl)
              have HK := Lib.hid hK
              have HC := Lib.hid hC
              clear hb hr hK hC hf
              unfold Run
              simp [execOp, Upon, go_sem, *]
              exact HK.out _ _ (.inl (Below.refl _ _)) rfl
            · refine ⟨⟨_, _, rfl, rfl, fun v w h => h⟩, ?_⟩
              refine (if_pos (by decide)).mpr ?_
              intro ev w' hC hc hf hb hr K hK
              have e41 := hr 10 _ rfl (by kernel_rfl)
              have e42 := hr 11 _ rfl (by kernel_rfl)
              change ev (.tmp 41) = _ at e41
              change ev (.tmp 42) = _ at e42
              have HK := Lib.hid hK
              have HC := Lib.hid hC
              clear hb hr hK hC hf
              have hrun := run_slice_h (P := Try.prog) 23 5 1 Try.underlying23 (by kernel_rfl) (some ad) n c m (by omega) w'
              rw [HAD0.out] at hrun
              unfold Run
              rw [run_sliceE 23 _ none (some _) rfl Try.underlying23 e41 (by simp only [Option.map_some, Option.map_none, e42]; exact hrun)]
              exact HK.out _ _ (.inl (Below.refl _ _)) rfl
            · refine ⟨⟨_, _, rfl, rfl, fun v w h => h⟩, ?_⟩
              refine (if_pos (by decide)).mpr ?_
              intro ev w' hC hc hf hb hr K hK
              have e40 := hr 9 _ rfl (by kernel_rfl)
              have e43 := hr 12 _ rfl (by kernel_rfl)
              change (Owned w1.heap.size pl : Pred) (ev (.tmp 40)) _ at e40
              change ev (.tmp 43) = _ at e43
              have HK := Lib.hid hK
              have HC := Lib.hid hC
              clear hb hr hK hC hf
              obtain ⟨A40, c40, q40, r40⟩ := e40
              have HDA := Lib.hid ((HRD.out w' HC.out).take m)
              have hb0 : Bits w' 0 w'.heap.size [.slice (some ad) m c] [l.take m] := by
                have := Bits.cons (lo := 0) (hi := w'.heap.size) (c := c) (p := l.take m) (by rw [← cells_take]; exact HDA.out) (fun h => by cases h) (Bits.nil (w := w'))
                rwa [HTK.out] at this
              have hb3 := Bits.cons (c := c40) ((Rd.own r40).wide (Nat.zero_le _) (Nat.le_refl _)) (by
                rintro rfl
                rcases r40.2 with ⟨he, _⟩ | ⟨g, cap, cur, he, _⟩
                · injection he
                · cases he) hb0
              rw [HPLL.out] at hb3 q40
              have HBI := Lib.hid hb3
              clear hb0 hb3 r40
              unfold Run
              simp [execOp, Upon, go_sem, *]
              exact HK.out _ _ (.inl ((Below.refl _ _).alloc (Nat.le_refl _) _)) (lists_new HBI.out _)
            · refine ⟨⟨_, _, rfl, rfl, fun v w h => h⟩, ?_⟩
              refine (if_pos (by decide)).mpr ?_
              intro ev w' hC hc hf hb hr K hK
              have e44 := hr 13 _ rfl (by kernel_rfl)
              change (Lists [pl, l.take m] : Pred) (ev (.tmp 44)) _ at e44
              have HK := Lib.hid hK
              have HC := Lib.hid hC
              clear hb hr hK hC
              obtain ⟨g44, vs, q44, r44, hb44⟩ := e44
              simp only [List.length_cons, List.length_nil] at q44
              have hrt := right_any ⟨g44, 0, none⟩ vs [pl, l.take m] 2 _ _ _ _ 2 (pl ++ l.take m) w' r44 (bits_pts hb44) rfl (by decide) (by intro p hp; simp at hp; unfold maxLen; rcases hp with rfl | rfl; (· have := HPLL.out; omega); (· have := HTK.out; omega)) (by simp)
              rw [HRS.out] at hrt
              have HRT := Lib.hid hrt
              clear r44 hb44 hrt
              unfold Run
              simp [execOp, Upon, go_sem, *]
              refine HRT.out.mono ?_
              rintro e w2 ⟨rfl, rfl⟩
              exact ⟨_, rfl, HK.out _ _ (.inl (Below.refl _ _)) rfl⟩
            · refine ⟨⟨_, _, rfl, rfl, fun v w h => h⟩, ?_⟩
              refine (if_pos (by decide)).mpr ?_
              intro ev w' hC hc hf hb hr K hK
              have e45 := hr 14 _ rfl (by kernel_rfl)
              change ev (.tmp 45) = _ at e45
              have HK := Lib.hid hK
              have HC := Lib.hid hC
              clear hb hr hK hC hf
              unfold Run
              simp [execOp, Upon, go_sem, *]
              exact HK.out _ _ (.inl (Below.refl _ _)) rfl
            · refine ⟨rfl, ?_⟩
              refine (if_pos (by decide)).mpr ?_
              intro ev w' hC hc hf hb hr K hK
              have e36 := hr 5 _ rfl (by kernel_rfl)
              have e46 := hr 15 _ rfl (by kernel_rfl)
              change ev (.tmp 36) = _ at e36
              change ev (.tmp 46) = _ at e46
              have HK := Lib.hid hK
              have HC := Lib.hid hC
              clear hb hr hK hC hf
              unfold Run
              simp [execOp, Upon, go_sem, *]
              exact HK.out _ _ (.inl (Below.refl _ _)) rfl
          · exact rl_mono ⟨is_mono _, is_mono _, is_mono _, is_mono _, is_mono _, is_mono _, is_mono _, is_mono _, is_mono _, owned_mono _ _, is_mono _, is_mono _, is_mono _, lists_mono _, is_mono _, is_mono _, is_mono _, trivial⟩
          intro us wq hG hH
          obtain ⟨-, -, -, -, -, -, -, -, -, -, -, -, -, -, -, -, h16, -⟩ := hH
          simp only [fillM]
          change us 47 = _ at h16
          rw [h16]
          clear h16
          generalize us 31 = v31
          generalize us 32 = v32
          generalize us 33 = v33
          generalize us 34 = v34
          generalize us 35 = v35
          generalize us 36 = v36
          generalize us 37 = v37
          generalize us 38 = v38
          generalize us 39 = v39
          generalize us 40 = v40
          generalize us 41 = v41
          generalize us 42 = v42
          generalize us 43 = v43
          generalize us 44 = v44
          generalize us 45 = v45
          generalize us 46 = v46
          have HB3 : Hid (Below w.heap.size w wq) := HB1.out.trans (hG.belowF.mono HB1.out.size)
          have c0q := K0.out wq hG
          have c1q := K1.out wq hG
          have K0 : Hid (∀ w', Gro (fun _ => False) wq w' → w'.cell? ⟨g, 0, none⟩ = some (.slice A0 2 c0)) := fun w' hg => (hg.belowF.cell (block_lt_of_cell c0q)).trans c0q
          have K1 : Hid (∀ w', Gro (fun _ => False) wq w' → w'.cell? ⟨g, 1, none⟩ = some (.slice A2 2 c2)) := fun w' hg => (hg.belowF.cell (block_lt_of_cell c1q)).trans c1q
          have HR0 := Lib.hid ((HR0.out.below hG.belowF (Nat.le_refl _)).wide (Nat.le_refl _) hG.size)
          have HR2 := Lib.hid ((HR2.out.below hG.belowF (Nat.le_refl _)).wide (Nat.le_refl _) hG.size)
          have HHX : Hid (∀ w', Gro (fun _ => False) wq w' → hi ≤ w'.heap.size) := fun w' hg => Nat.le_trans HHX1.out (Nat.le_trans hG.size hg.size)
          have HRX : Hid (∀ w', Gro (fun _ => False) wq w' → Rd w' lo hi (some ad2) (cells ((l.take m).drop 8))) := fun w' hg => (HRX1.out.below hG.belowF HHX1.out).below hg.belowF (Nat.le_trans HHX1.out hG.size)
          clear hG c0q c1q
          go_wp2_with fail
          apply wp_region_rely (fun _ => False) (RL [Is _, Is _, Is _, Is (.int .u16 ((256 * b0.toNat + b1.toNat : Nat) : Int)), Is _, Is _, Is _, Is (.int .u16 ((256 * b2.toNat + b3.toNat : Nat) : Int)), Is _, Is _, Is (.slice (some ad2) (m - 8) (c - 8)), Fresh wq.heap.size ((l.take m).drop 8), DgP wq.heap.size ⟨256 * b0.toNat + b1.toNat, 256 * b2.toNat + b3.toNat, (l.take m).drop 8⟩, DgI wq.heap.size ⟨256 * b0.toNat + b1.toNat, 256 * b2.toNat + b3.toNat, (l.take m).drop 8⟩, DgI wq.heap.size ⟨256 * b0.toNat + b1.toNat, 256 * b2.toNat + b3.toNat, (l.take m).drop 8⟩, Is _]) [false, false, false, false, false, false, true, true, false, false, false, false, false, false, false, false, false, false, false, false, false, false, false, false, false, false, false, false, false, false, false, false, false, false, false, false, false, false, false, false, false, false, false, false, false, false, false, false, true, true, true, true, true, true, true, true, true, true, true, true, true, true]
          · kernel_rfl
          · kernel_rfl
          · kernel_rfl
          · refine ⟨?_, ?_, ?_, ?_, ?_, ?_, ?_, ?_, ?_, ?_, ?_, ?_, ?_, ?_, ?_, ?_, trivial⟩
            · intro ev w' hC hc hf hb hr K hK
              have e8 : ev (.tmp 8) = _ := hb 8 (by kernel_rfl)
              have HK := Lib.hid hK
              have HC := Lib.hid hC
              clear hb hr hK hC hf
              unfold Run
              simp [execOp, Upon, go_sem, *]
              exact HK.out _ _ (.inl (Below.refl _ _)) rfl
            · intro ev w' hC hc hf hb hr K hK
              have e48 := hr 0 _ rfl (by kernel_rfl)
              change ev (.tmp 48) = _ at e48
              have HK := Lib.hid hK
              have HC := Lib.hid hC
              clear hb hr hK hC hf
              unfold Run
              simp [execOp, Upon, go_sem, *]
              exact HK.out _ _ (.inl (Below.refl _ _)) rfl
            · intro ev w' hC hc hf hb hr K hK
              have e49 := hr 1 _ rfl (by kernel_rfl)
              change ev (.tmp 49) = _ at e49
              have HK := Lib.hid hK
              have HC := Lib.hid hC
              clear hb hr hK hC hf
              have c50 := K0.out w' HC.out
              unfold Run
              simp [execOp, Upon, go_sem, *]
              exact HK.out _ _ (.inl (Below.refl _ _)) rfl
            · intro ev w' hC hc hf hb hr K hK
              have e50 := hr 2 _ rfl (by kernel_rfl)
              change ev (.tmp 50) = _ at e50
              have HK := Lib.hid hK
              have HC := Lib.hid hC
              clear hb hr hK hC
              unfold Run
              simp [execOp, Upon, go_sem, *]
              refine (word_at A0 b0 b1 c0 0 wq.heap.size w' (HR0.out.below HC.out.belowF (Nat.le_refl _))).mono ?_
              rintro e w2 ⟨rfl, rfl⟩
              exact ⟨_, rfl, HK.out _ _ (.inl (Below.refl _ _)) rfl⟩
            · intro ev w' hC hc hf hb hr K hK
              have e8 : ev (.tmp 8) = _ := hb 8 (by kernel_rfl)
              have HK := Lib.hid hK
              have HC := Lib.hid hC
              clear hb hr hK hC hf
              unfold Run
              simp [execOp, Upon, go_sem, *]
              exact HK.out _ _ (.inl (Below.refl _ _)) rfl
            · intro ev w' hC hc hf hb hr K hK
              have e52 := hr 4 _ rfl (by kernel_rfl)
              change ev (.tmp 52) = _ at e52
              have HK := Lib.hid hK
              have HC := Lib.hid hC
              clear hb hr hK hC hf
              unfold Run
              simp [execOp, Upon, go_sem, *]
              exact HK.out _ _ (.inl (Below.refl _ _)) rfl
            · intro ev w' hC hc hf hb hr K hK
              have e53 := hr 5 _ rfl (by kernel_rfl)
              change ev (.tmp 53) = _ at e53
              have HK := Lib.hid hK
              have HC := Lib.hid hC
              clear hb hr hK hC hf
              have c54 := K1.out w' HC.out
              unfold Run
              simp [execOp, Upon, go_sem, *]
              exact HK.out _ _ (.inl (Below.refl _ _)) rfl
            · intro ev w' hC hc hf hb hr K hK
              have e54 := hr 6 _ rfl (by kernel_rfl)
              change ev (.tmp 54) = _ at e54
              have HK := Lib.hid hK
              have HC := Lib.hid hC
              clear hb hr hK hC
              unfold Run
              simp [execOp, Upon, go_sem, *]
              refine (word_at A2 b2 b3 c2 0 wq.heap.size w' (HR2.out.below HC.out.belowF (Nat.le_refl _))).mono ?_
              rintro e w2 ⟨rfl, rfl⟩
              exact ⟨_, rfl, HK.out _ _ (.inl (Below.refl _ _)) rfl⟩
            · intro ev w' hC hc hf hb hr K hK
              have e0 : ev (.tmp 0) = _ := hb 0 (by kernel_rfl)
              have HK := Lib.hid hK
              have HC := Lib.hid hC
              clear hb hr hK hC hf
              unfold Run
              simp [execOp, Upon, go_sem, *]
              exact HK.out _ _ (.inl (Below.refl _ _)) rfl
            · intro ev w' hC hc hf hb hr K hK
              have e10 : ev (.tmp 10) = _ := hb 10 (by kernel_rfl)
              have HK := Lib.hid hK
              have HC := Lib.hid hC
              clear hb hr hK hC hf
              unfold Run
              simp [execOp, Upon, go_sem, *]
              exact HK.out _ _ (.inl (Below.refl _ _)) rfl
            · intro ev w' hC hc hf hb hr K hK
              have e56 := hr 8 _ rfl (by kernel_rfl)
              have e57 := hr 9 _ rfl (by kernel_rfl)
              change ev (.tmp 56) = _ at e56
              change ev (.tmp 57) = _ at e57
              have HK := Lib.hid hK
              have HC := Lib.hid hC
              clear hb hr hK hC hf
              have hrun := run_slice_lh (P := Try.prog) 23 5 1 Try.underlying23 (by kernel_rfl) (some ad) n c 8 m (by omega) (by omega) w'
              rw [HAD2.out] at hrun
              unfold Run
              rw [run_sliceE 23 _ (some _) (some _) rfl Try.underlying23 e56 (by simp only [Option.map_some, hc, e57]; exact hrun)]
              exact HK.out _ _ (.inl (Below.refl _ _)) rfl
            · intro ev w' hC hc hf hb hr K hK
              have e58 := hr 10 _ rfl (by kernel_rfl)
              change ev (.tmp 58) = _ at e58
              have HK := Lib.hid hK
              have HC := Lib.hid hC
              clear hb hr hK hC
              have hcl := clone_some ad2 ((l.take m).drop 8) (c - 8) lo hi w' (HRX.out w' HC.out) (HHX.out w' HC.out) (by rw [HDL.out]; omega)
              rw [HDL.out] at hcl
              have HCL := Lib.hid hcl
              clear hcl
              unfold Run
              simp [execOp, Upon, go_sem, *]
              refine HCL.out.mono ?_
              rintro e w2 ⟨v, rfl, hf, hb⟩
              exact ⟨v, rfl, HK.out _ _ (.inl hb) (hf.wide HC.out.size)⟩
            · intro ev w' hC hc hf hb hr K hK
              have e51 := hr 3 _ rfl (by kernel_rfl)
              have e55 := hr 7 _ rfl (by kernel_rfl)
              have e59 := hr 11 _ rfl (by kernel_rfl)
              change ev (.tmp 51) = _ at e51
              change ev (.tmp 55) = _ at e55
              change (Fresh wq.heap.size ((l.take m).drop 8) : Pred) (ev (.tmp 59)) _ at e59
              have HK := Lib.hid hK
              have HC := Lib.hid hC
              clear hb hr hK hC hf
              obtain ⟨A59, c59, q59, r59, z59, l59, m59⟩ := e59
              rw [HDL.out] at q59 l59
              have HZ := Lib.hid (And.intro r59 (And.intro l59 (And.intro m59 z59)))
              clear r59 z59 l59 m59
              unfold Run
              simp [execOp, Upon, go_sem, *]
              refine HK.out _ _ (.inl (Below.refl _ _)) ⟨_, rfl, A59, c59, by rw [HDL.out]; rfl, ⟨by show 256 * b0.toNat + b1.toNat < 65536; omega, by show 256 * b2.toNat + b3.toNat < 65536; omega⟩, HZ.out.1, ?_, HZ.out.2.2.1, HZ.out.2.2.2⟩
              show List.length _ ≤ _
              rw [HDL.out]
              exact HZ.out.2.1
            · intro ev w' hC hc hf hb hr K hK
              have e60 := hr 12 _ rfl (by kernel_rfl)
              change (DgP wq.heap.size ⟨256 * b0.toNat + b1.toNat, 256 * b2.toNat + b3.toNat, (l.take m).drop 8⟩ : Pred) (ev (.tmp 60)) _ at e60
              have HK := Lib.hid hK
              have HC := Lib.hid hC
              clear hb hr hK hC hf
              obtain ⟨cs, q60, r60⟩ := e60
              have HZ := Lib.hid r60
              clear r60
              unfold Run
              simp [execOp, Upon, go_sem, *]
              exact HK.out _ _ (.inl (Below.refl _ _)) ⟨cs, rfl, HZ.out⟩
            · intro ev w' hC hc hf hb hr K hK
              have e61 := hr 13 _ rfl (by kernel_rfl)
              change (DgI wq.heap.size ⟨256 * b0.toNat + b1.toNat, 256 * b2.toNat + b3.toNat, (l.take m).drop 8⟩ : Pred) (ev (.tmp 61)) _ at e61
              have HK := Lib.hid hK
              have HC := Lib.hid hC
              clear hb hr hK hC hf
              obtain ⟨cs, q61, r60⟩ := e61
              have HZ := Lib.hid r60
              clear r60
              unfold Run
              simp [execOp, Upon, go_sem, *]
              exact HK.out _ _ (.inl (Below.refl _ _)) ⟨cs, rfl, HZ.out⟩
            · intro ev w' hC hc hf hb hr K hK
              have HK := Lib.hid hK
              have HC := Lib.hid hC
              clear hb hr hK hC hf
              unfold Run
              simp [execOp, Upon, go_sem, *]
              exact HK.out _ _ (.inl (Below.refl _ _)) rfl
          · exact rl_mono ⟨is_mono _, is_mono _, is_mono _, is_mono _, is_mono _, is_mono _, is_mono _, is_mono _, is_mono _, is_mono _, is_mono _, fresh_mono _ _, dgP_mono _ _, dgI_mono _ _, dgI_mono _ _, is_mono _, trivial⟩
          intro us wr hG hH
          obtain ⟨-, -, -, -, -, -, -, -, -, -, -, -, -, -, h14, h15, -⟩ := hH
          simp only [fillM]
          change (DgI wq.heap.size ⟨256 * b0.toNat + b1.toNat, 256 * b2.toNat + b3.toNat, (l.take m).drop 8⟩ : Pred) (us 6) wr at h14
          change us 7 = _ at h15
          rw [h15]
          clear h15
          generalize us 48 = v48
          generalize us 49 = v49
          generalize us 50 = v50
          generalize us 51 = v51
          generalize us 52 = v52
          generalize us 53 = v53
          generalize us 54 = v54
          generalize us 55 = v55
          generalize us 56 = v56
          generalize us 57 = v57
          generalize us 58 = v58
          generalize us 59 = v59
          generalize us 60 = v60
          generalize us 61 = v61
          generalize us 6 = v6 at h14 ⊢
          obtain ⟨cs, h14a, h14b⟩ := h14
          have HB4 := Lib.hid (HB3.out.trans (hG.belowF.mono HB3.out.size))
          have HD4 := Lib.hid (h14b.wide HB3.out.size (Nat.le_refl _))
          subst h14a
          clear h14b hG
          go_wp2
          go_ret2
          rw [HE5.out]
          exact ⟨_, rfl, HB4.out, fun _ => ⟨cs, rfl, HD4.out⟩, fun h => absurd rfl h⟩
        · have HE5 := Lib.hid (HE4.out.trans (if_pos ⟨ht0, hs⟩))
          have HRS : Hid ((((sumL (pl ++ l.take m) : Nat) : Int) == 65535) = false) := beqF (by omega)
          clear HE HE2 HE3 HE4
          apply wp_region_relyQ (fun _ => true) (fun _ => False) (RL [Is _, Is _, Is _, Is (.int .u16 (t : Int)), Is (.bool true), Is (.bool true), Is (.agg #[.int .u8 (s0.toNat : Int), .int .u8 (s1.toNat : Int), .int .u8 (s2.toNat : Int), .int .u8 (s3.toNat : Int)]), Is (.agg #[.int .u8 (d0.toNat : Int), .int .u8 (d1.toNat : Int), .int .u8 (d2.toNat : Int), .int .u8 (d3.toNat : Int)]), Is _, Owned w1.heap.size pl, Is (.slice (some ad) n c), Is (.int .i64 (m : Int)), Is (.slice (some ad) m c), Lists [pl, l.take m], Is (.bool false), Is (.bool true), Is (.bool true)]) [false, false, false, false, false, false, false, false, false, false, false, false, false, false, false, false, false, false, false, false, false, false, false, false, false, false, false, false, false, false, false, true, true, true, true, true, true, true, true, true, true, true, true, true, true, true, true, true, false, false, false, false, false, false, false, false, false, false, false, false, false, false]
          · kernel_rfl
          · kernel_rfl
          · kernel_rfl
          · refine ⟨?_, ?_, ?_, ?_, ?_, ?_, ?_, ?_, ?_, ?_, ?_, ?_, ?_, ?_, ?_, ?_, ?_, trivial⟩
            · refine ⟨rfl, ?_⟩
              refine (if_pos (by decide)).mpr ?_
              intro ev w' hC hc hf hb hr K hK
              have e8 : ev (.tmp 8) = _ := hb 8 (by kernel_rfl)
              have HK := Lib.hid hK
              have HC := Lib.hid hC
              clear hb hr hK hC hf
              unfold Run
              simp [execOp, Upon, go_sem, *]
              exact HK.out _ _ (.inl (Below.refl _ _)) rfl
            · refine ⟨rfl, ?_⟩
              refine (if_pos (by decide)).mpr ?_
              intro ev w' hC hc hf hb hr K hK
              have e31 := hr 0 _ rfl (by kernel_rfl)
              change ev (.tmp 31) = _ at e31
              have HK := Lib.hid hK
              have HC := Lib.hid hC
              clear hb hr hK hC hf
              unfold Run
              simp [execOp, Upon, go_sem, *]
              exact HK.out _ _ (.inl (Below.refl _ _)) rfl
            · refine ⟨rfl, ?_⟩
              refine (if_pos (by decide)).mpr ?_
              intro ev w' hC hc hf hb hr K hK
              have e32 := hr 1 _ rfl (by kernel_rfl)
              change ev (.tmp 32) = _ at e32
              have HK := Lib.hid hK
              have HC := Lib.hid hC
              clear hb hr hK hC hf
              have c33 := K3.out w' HC.out
              unfold Run
              simp [execOp, Upon, go_sem, *]
              exact HK.out _ _ (.inl (Below.refl _ _)) rfl
            · refine ⟨rfl, ?_⟩
              refine (if_pos (by decide)).mpr ?_
              intro ev w' hC hc hf hb hr K hK
              have e33 := hr 2 _ rfl (by kernel_rfl)
              change ev (.tmp 33) = _ at e33
              have HK := Lib.hid hK
              have HC := Lib.hid hC
              clear hb hr hK hC
              unfold Run
              simp [execOp, Upon, go_sem, *]
              refine (word_at A4 b6 b7 c4 0 w1.heap.size w' (HR4.out.below HC.out.belowF (Nat.le_refl _))).mono ?_
              rw [HTV.out]
              rintro e w2 ⟨rfl, rfl⟩
              exact ⟨_, rfl, HK.out _ _ (.inl (Below.refl _ _)) rfl⟩
            · refine ⟨rfl, ?_⟩
              refine (if_pos (by decide)).mpr ?_
              intro ev w' hC hc hf hb hr K hK
              have e34 := hr 3 _ rfl (by kernel_rfl)
              change ev (.tmp 34) = _ at e34
              have HK := Lib.hid hK
              have HC := Lib.hid hC
              clear hb hr hK hC hf
              unfold Run
              simp [execOp, Upon, go_sem, *]
              exact HK.out _ _ (.inl (Below.refl _ _)) rfl
            · refine ⟨rfl, ?_⟩
              refine (if_pos (by decide)).mpr ?_
              intro ev w' hC hc hf hb hr K hK
              have e35 := hr 4 _ rfl (by kernel_rfl)
              change ev (.tmp 35) = _ at e35
              have HK := Lib.hid hK
              have HC := Lib.hid hC
              clear hb hr hK hC hf
              unfold Run
              simp [execOp, Upon, go_sem, *]
              exact HK.out _ _ (.inl (Below.refl _ _)) rfl
            · refine ⟨⟨_, _, rfl, rfl, fun v w h => h⟩, ?_⟩
              refine (if_pos (by decide)).mpr ?_
              intro ev w' hC hc hf hb hr K hK
              have e4 : ev (.tmp 4) = _ := hb 4 (by kernel_rfl)
              have HK := Lib.hid hK
              have HC := Lib.hid hC
              clear hb hr hK hC hf
              have q1 : ev (.tmp 4) = .pointer (some ⟨w.heap.size, 0, none⟩) := e4
              have hld := run_loadVar_row (P := Try.prog) w' (w.heap.size) 27 27 #[.int .u8 (s0.toNat : Int), .int .u8 (s1.toNat : Int), .int .u8 (s2.toNat : Int), .int .u8 (s3.toNat : Int)] (0, 0) _ (HGSW.out w' HC.out) Try.underlying27 rfl (by kernel_rfl)
              unfold Run
              rw [run_loadE 27 _ rfl q1 hld]
              exact HK.out _ _ (.inl (Below.refl _ _)) rfl
            · refine ⟨⟨_, _, rfl, rfl, fun v w h => h⟩, ?_⟩
              refine (if_pos (by decide)).mpr ?_
              intro ev w' hC hc hf hb hr K hK
              have e5 : ev (.tmp 5) = _ := hb 5 (by kernel_rfl)
              have HK := Lib.hid hK
              have HC := Lib.hid hC
              clear hb hr hK hC hf
              have q1 : ev (.tmp 5) = .pointer (some ⟨w.heap.size + 1, 0, none⟩) := e5
              have hld := run_loadVar_row (P := Try.prog) w' (w.heap.size + 1) 27 27 #[.int .u8 (d0.toNat : Int), .int .u8 (d1.toNat : Int), .int .u8 (d2.toNat : Int), .int .u8 (d3.toNat : Int)] (0, 0) _ (HGDW.out w' HC.out) Try.underlying27 rfl (by kernel_rfl)
              unfold Run
              rw [run_loadE 27 _ rfl q1 hld]
              exact HK.out _ _ (.inl (Below.refl _ _)) rfl
            · refine ⟨⟨_, _, rfl, rfl, fun v w h => h⟩, ?_⟩
              refine (if_pos (by decide)).mpr ?_
              intro ev w' hC hc hf hb hr K hK
              have e10 : ev (.tmp 10) = _ := hb 10 (by kernel_rfl)
              have HK := Lib.hid hK
              have HC := Lib.hid hC
              clear hb hr hK hC hf
              unfold Run
              simp [execOp, Upon, go_sem, *]
              exact HK.out _ _ (.inl (Below.refl _ _)) rfl
            · refine ⟨⟨_, _, rfl, rfl, fun v w h => h⟩, ?_⟩
              refine (if_pos (by decide)).mpr ?_
              intro ev w' hC hc hf hb hr K hK
              have e37 := hr 6 _ rfl (by kernel_rfl)
              have e38 := hr 7 _ rfl (by kernel_rfl)
              have e39 := hr 8 _ rfl (by kernel_rfl)
              change ev (.tmp 37) = _ at e37
              change ev (.tmp 38) = _ at e38
              change ev (.tmp 39) = _ at e39
              have HK := Lib.hid hK
              have HC := Lib.hid hC
              clear hb hr hK hC
              unfold Run
              simp [execOp, Upon, go_sem, *]
              have hps := pseudo_any s0 s1 s2 s3 d0 d1 d2 d3 17 m w'
              rw [HPL.out] at hps
              refine hps.mono ?_
              rintro e w2 ⟨A2', c2', rfl, ho, hb⟩
              exact ⟨_, rfl, HK.out _ _ (.inl hb) ⟨A2', c2', rfl, own_base ho HC.out.size⟩⟩
            · refine ⟨⟨_, _, rfl, rfl, fun v w h => h⟩, ?_⟩
              refine (if_pos (by decide)).mpr ?_
              intro ev w' hC hc hf hb hr K hK
              have e0 : ev (.tmp 0) = _ := hb 0 (by kernel_rfl)
              have HK := Lib.hid hK
              have HC := Lib.hid hC
              clear hb hr hK hC hf
              unfold Run
              simp [execOp, Upon, go_sem, *]
              exact HK.out _ _ (.inl (Below.refl _ _)) rfl
            · refine ⟨⟨_, _, rfl, rfl, fun v w h => h⟩, ?_⟩
              refine (if_pos (by decide)).mpr ?_
              intro ev w' hC hc hf hb hr K hK
              have e10 : ev (.tmp 10) = _ := hb 10 (by kernel_rfl)
              have HK := Lib.hid hK
              have HC := Lib.hid hC
              clear hb hr hK hC hf
              unfold Run
              simp [execOp, Upon, go_sem, *]
              exact HK.out _ _ (.inl (Below.refl _ _)) rfl
            · refine ⟨⟨_, _, rfl, rfl, fun v w h => h⟩, ?_⟩
              refine (if_pos (by decide)).mpr ?_
              intro ev w' hC hc hf hb hr K hK
              have e41 := hr 10 _ rfl (by kernel_rfl)
              have e42 := hr 11 _ rfl (by kernel_rfl)
              change ev (.tmp 41) = _ at e41
              change ev (.tmp 42) = _ at e42
              have HK := Lib.hid hK
              have HC := Lib.hid hC
              clear hb hr hK hC hf
              have hrun := run_slice_h (P := Try.prog) 23 5 1 Try.underlying23 (by kernel_rfl) (some ad) n c m (by omega) w'
              rw [HAD0.out] at hrun
              unfold Run
              rw [run_sliceE 23 _ none (some _) rfl Try.underlying23 e41 (by simp only [Option.map_some, Option.map_none, e42]; exact hrun)]
              exact HK.out _ _ (.inl (Below.refl _ _)) rfl
            · refine ⟨⟨_, _, rfl, rfl, fun v w h => h⟩, ?_⟩
              refine (if_pos (by decide)).mpr ?_
              intro ev w' hC hc hf hb hr K hK
              have e40 := hr 9 _ rfl (by kernel_rfl)
              have e43 := hr 12 _ rfl (by kernel_rfl)
              change (Owned w1.heap.size pl : Pred) (ev (.tmp 40)) _ at e40
              change ev (.tmp 43) = _ at e43
              have HK := Lib.hid hK
              have HC := Lib.hid hC
              clear hb hr hK hC hf
              obtain ⟨A40, c40, q40, r40⟩ := e40
              have HDA := Lib.hid ((HRD.out w' HC.out).take m)
              have hb0 : Bits w' 0 w'.heap.size [.slice (some ad) m c] [l.take m] := by
                have := Bits.cons (lo := 0) (hi := w'.heap.size) (c := c) (p := l.take m) (by rw [← cells_take]; exact HDA.out) (fun h => by cases h) (Bits.nil (w := w'))
                rwa [HTK.out] at this
              have hb3 := Bits.cons (c := c40) ((Rd.own r40).wide (Nat.zero_le _) (Nat.le_refl _)) (by
                rintro rfl
                rcases r40.2 with ⟨he, _⟩ | ⟨g, cap, cur, he, _⟩
                · injection he
                · cases he) hb0
              rw [HPLL.out] at hb3 q40
              have HBI := Lib.hid hb3
              clear hb0 hb3 r40
              unfold Run
              simp [execOp, Upon, go_sem, *]
              exact HK.out _ _ (.inl ((Below.refl _ _).alloc (Nat.le_refl _) _)) (lists_new HBI.out _)
            · refine ⟨⟨_, _, rfl, rfl, fun v w h => h⟩, ?_⟩
              refine (if_pos (by decide)).mpr ?_
              intro ev w' hC hc hf hb hr K hK
              have e44 := hr 13 _ rfl (by kernel_rfl)
              change (Lists [pl, l.take m] : Pred) (ev (.tmp 44)) _ at e44
              have HK := Lib.hid hK
              have HC := Lib.hid hC
              clear hb hr hK hC
              obtain ⟨g44, vs, q44, r44, hb44⟩ := e44
              simp only [List.length_cons, List.length_nil] at q44
              have hrt := right_any ⟨g44, 0, none⟩ vs [pl, l.take m] 2 _ _ _ _ 2 (pl ++ l.take m) w' r44 (bits_pts hb44) rfl (by decide) (by intro p hp; simp at hp; unfold maxLen; rcases hp with rfl | rfl; (· have := HPLL.out; omega); (· have := HTK.out; omega)) (by simp)
              rw [HRS.out] at hrt
              have HRT := Lib.hid hrt
              clear r44 hb44 hrt
              unfold Run
              simp [execOp, Upon, go_sem, *]
              refine HRT.out.mono ?_
              rintro e w2 ⟨rfl, rfl⟩
              exact ⟨_, rfl, HK.out _ _ (.inl (Below.refl _ _)) rfl⟩
            · refine ⟨⟨_, _, rfl, rfl, fun v w h => h⟩, ?_⟩
              refine (if_pos (by decide)).mpr ?_
              intro ev w' hC hc hf hb hr K hK
              have e45 := hr 14 _ rfl (by kernel_rfl)
              change ev (.tmp 45) = _ at e45
              have HK := Lib.hid hK
              have HC := Lib.hid hC
              clear hb hr hK hC hf
              unfold Run
              simp [execOp, Upon, go_sem, *]
              exact HK.out _ _ (.inl (Below.refl _ _)) rfl
            · refine ⟨rfl, ?_⟩
              refine (if_pos (by decide)).mpr ?_
              intro ev w' hC hc hf hb hr K hK
              have e36 := hr 5 _ rfl (by kernel_rfl)
              have e46 := hr 15 _ rfl (by kernel_rfl)
              change ev (.tmp 36) = _ at e36
              change ev (.tmp 46) = _ at e46
              have HK := Lib.hid hK
              have HC := Lib.hid hC
              clear hb hr hK hC hf
              unfold Run
              simp [execOp, Upon, go_sem, *]
              exact HK.out _ _ (.inl (Below.refl _ _)) rfl
          · exact rl_mono ⟨is_mono _, is_mono _, is_mono _, is_mono _, is_mono _, is_mono _, is_mono _, is_mono _, is_mono _, owned_mono _ _, is_mono _, is_mono _, is_mono _, lists_mono _, is_mono _, is_mono _, is_mono _, trivial⟩
          intro us wq hG hH
          obtain ⟨-, -, -, -, -, -, -, -, -, -, -, -, -, -, -, -, h16, -⟩ := hH
          simp only [fillM]
          change us 47 = _ at h16
          rw [h16]
          clear h16
          generalize us 31 = v31
          generalize us 32 = v32
          generalize us 33 = v33
          generalize us 34 = v34
          generalize us 35 = v35
          generalize us 36 = v36
          generalize us 37 = v37
          generalize us 38 = v38
          generalize us 39 = v39
          generalize us 40 = v40
          generalize us 41 = v41
          generalize us 42 = v42
          generalize us 43 = v43
          generalize us 44 = v44
          generalize us 45 = v45
          generalize us 46 = v46
          have HB3 : Hid (Below w.heap.size w wq) := HB1.out.trans (hG.belowF.mono HB1.out.size)
          clear hG
          go_wp2
          go_ret2
          exact dgO_none HE5.out (by decide) HB3.out
end Go.Proofs.Ythkpkhhnlenioaa
