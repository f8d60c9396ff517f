/-
  The document's own answer for a segment's bytes (caravelref09.Build): what the plain function gives. Every one that can be read, every two hosts. No condition.
-/
import Derived.Test.YtjgdmkmfnkaoaaaRefN
import Derived.Test.YtjgdmkmfnkaoaaaSameS
import Derived.Deep.DeepCutAuto
namespace Go.Proofs.Ytjgdmkmfnkaoaaa
open Go.RowKit

/-- what a function leaves that hands back a text and an error -/
def TxtPost (w : World) (r : List UInt8 × Int) (e : Ending) (w' : World) : Prop := e = .returned (.tuple #[txt r.1, .int .i64 r.2]) ∧ Below w.heap.size w w'
theorem two_even (y : Nat) : (y : Int) / 2 % 2 = ((y / 2 % 2 : Nat) : Int) := by omega
set_option maxRecDepth 100000 in
set_option maxHeartbeats 400000 in
theorem rbuild_long (cs : Array Value) (x : Sg) (s0 s1 s2 s3 d0 d1 d2 d3 : UInt8) (lo hi : Nat) (w : World) (h : SgC w lo hi cs x) (hl : 156 < x.data.length) :
    Calls Try.prog 12 #[.agg cs, .agg #[.int .u8 (s0.toNat : Int), .int .u8 (s1.toNat : Int), .int .u8 (s2.toNat : Int), .int .u8 (s3.toNat : Int)], .agg #[.int .u8 (d0.toNat : Int), .int .u8 (d1.toNat : Int), .int .u8 (d2.toNat : Int), .int .u8 (d3.toNat : Int)]] w (TxtPost w ([], 4)) := by
  obtain ⟨A, c, rfl, hok, hrd, hlc, hcm, hA⟩ := h
  obtain ⟨w1, hw1⟩ : ∃ w1, ((w.alloc (.cells #[.int .u16 (x.src : Int), .int .u16 (x.dst : Int), .int .u32 (x.seq : Int), .int .u32 (x.ack : Int), .int .u8 (x.flags.toNat : Int), .int .u16 (x.wnd : Int), .int .u16 (x.mss : Int), .slice A x.data.length c] 26)).alloc (.cells #[.int .u8 (s0.toNat : Int), .int .u8 (s1.toNat : Int), .int .u8 (s2.toNat : Int), .int .u8 (s3.toNat : Int)] 28)).alloc (.cells #[.int .u8 (d0.toNat : Int), .int .u8 (d1.toNat : Int), .int .u8 (d2.toNat : Int), .int .u8 (d3.toNat : Int)] 28) = w1 := ⟨_, rfl⟩
  have HB1 : Hid (Below w.heap.size w w1) := by show Below _ _ _; rw [← hw1]; exact (((Below.refl _ _).alloc (Nat.le_refl _) _).alloc (by simp) _).alloc (by simp; omega) _
  have hg1 : w1.heap[w.heap.size]? = some (.cells #[.int .u16 (x.src : Int), .int .u16 (x.dst : Int), .int .u32 (x.seq : Int), .int .u32 (x.ack : Int), .int .u8 (x.flags.toNat : Int), .int .u16 (x.wnd : Int), .int .u16 (x.mss : Int), .slice A x.data.length c] 26 (0, 0)) := by rw [← hw1]; exact old_alloc (old_alloc (heap_alloc_new w _) _) _
  have k7 : w1.cell? ⟨w.heap.size, 7, none⟩ = some (.slice A x.data.length c) := cell_of_row _ _ 7 _ _ _ hg1
  generalize x.data.length = n at *
  unfold maxLen at hcm
  go_enter Try.func12, Try.ntmps12
  go_wp2
  go_ret2
  exact ⟨rfl, HB1.out⟩
set_option maxRecDepth 100000 in
set_option maxHeartbeats 1000000 in
theorem rbuild_arg (cs : Array Value) (x : Sg) (s0 s1 s2 s3 d0 d1 d2 d3 : UInt8) (lo hi : Nat) (w : World) (h : SgC w lo hi cs x) (hl : ¬ 156 < x.data.length) (hm : ¬ x.may) :
    Calls Try.prog 12 #[.agg cs, .agg #[.int .u8 (s0.toNat : Int), .int .u8 (s1.toNat : Int), .int .u8 (s2.toNat : Int), .int .u8 (s3.toNat : Int)], .agg #[.int .u8 (d0.toNat : Int), .int .u8 (d1.toNat : Int), .int .u8 (d2.toNat : Int), .int .u8 (d3.toNat : Int)]] w (TxtPost w ([], 1)) := by
  obtain ⟨A, c, rfl, hok, hrd, hlc, hcm, hA⟩ := h
  obtain ⟨w1, hw1⟩ : ∃ w1, ((w.alloc (.cells #[.int .u16 (x.src : Int), .int .u16 (x.dst : Int), .int .u32 (x.seq : Int), .int .u32 (x.ack : Int), .int .u8 (x.flags.toNat : Int), .int .u16 (x.wnd : Int), .int .u16 (x.mss : Int), .slice A x.data.length c] 26)).alloc (.cells #[.int .u8 (s0.toNat : Int), .int .u8 (s1.toNat : Int), .int .u8 (s2.toNat : Int), .int .u8 (s3.toNat : Int)] 28)).alloc (.cells #[.int .u8 (d0.toNat : Int), .int .u8 (d1.toNat : Int), .int .u8 (d2.toNat : Int), .int .u8 (d3.toNat : Int)] 28) = w1 := ⟨_, rfl⟩
  have HB1 : Hid (Below w.heap.size w w1) := by show Below _ _ _; rw [← hw1]; exact (((Below.refl _ _).alloc (Nat.le_refl _) _).alloc (by simp) _).alloc (by simp; omega) _
  have hg1 : w1.heap[w.heap.size]? = some (.cells #[.int .u16 (x.src : Int), .int .u16 (x.dst : Int), .int .u32 (x.seq : Int), .int .u32 (x.ack : Int), .int .u8 (x.flags.toNat : Int), .int .u16 (x.wnd : Int), .int .u16 (x.mss : Int), .slice A x.data.length c] 26 (0, 0)) := by rw [← hw1]; exact old_alloc (old_alloc (heap_alloc_new w _) _) _
  have hfl := x.flags.toNat_lt
  have hcase : 31 < x.flags.toNat ∨ (x.flags.toNat ≤ 31 ∧ x.mss ≠ 0 ∧ x.flags.toNat / 2 % 2 = 0) := by
    unfold Sg.may at hm
    by_cases h1 : 31 < x.flags.toNat
    · exact .inl h1
    · refine .inr ⟨by omega, fun h0 => hm ⟨by omega, fun h => absurd h0 h⟩, ?_⟩
      apply Decidable.byContradiction
      intro h2
      exact hm ⟨by omega, fun _ => by omega⟩
  have k7 : w1.cell? ⟨w.heap.size, 7, none⟩ = some (.slice A x.data.length c) := cell_of_row _ _ 7 _ _ _ hg1
  have k4 : w1.cell? ⟨w.heap.size, 4, none⟩ = some (.int .u8 (x.flags.toNat : Int)) := cell_of_row _ _ 4 _ _ _ hg1
  have k6 : w1.cell? ⟨w.heap.size, 6, none⟩ = some (.int .u16 (x.mss : Int)) := cell_of_row _ _ 6 _ _ _ hg1
  generalize x.data.length = n at *
  generalize x.flags.toNat = y at *
  generalize x.mss = ms at *
  unfold maxLen at hcm
  clear hm hrd hok
  rcases hcase with h1 | ⟨h1, h2, h3⟩
  · go_enter Try.func12, Try.ntmps12
    go_wp2
    go_ret2
    exact ⟨rfl, HB1.out⟩
  · have q1 := bneT (show (ms : Int) ≠ 0 by omega)
    have q2 : ((y : Int) / 2 % 2 == 0) = true := beqT (by omega)
    go_enter Try.func12, Try.ntmps12
    go_wp2
    go_ret2
    exact ⟨rfl, HB1.out⟩
set_option maxRecDepth 100000 in
set_option maxHeartbeats 4000000 in
theorem rbuild_fits (cs : Array Value) (x : Sg) (s0 s1 s2 s3 d0 d1 d2 d3 : UInt8) (lo hi : Nat) (w : World) (h : SgC w lo hi cs x) (hhi : hi ≤ w.heap.size) (hl : ¬ 156 < x.data.length) (hm : x.may) :
    Calls Try.prog 12 #[.agg cs, .agg #[.int .u8 (s0.toNat : Int), .int .u8 (s1.toNat : Int), .int .u8 (s2.toNat : Int), .int .u8 (s3.toNat : Int)], .agg #[.int .u8 (d0.toNat : Int), .int .u8 (d1.toNat : Int), .int .u8 (d2.toNat : Int), .int .u8 (d3.toNat : Int)]] w (TxtPost w (x.bytes [s0, s1, s2, s3] [d0, d1, d2, d3], 0)) := by
  obtain ⟨A, c, rfl, hok, hrd, hlc, hcm, hA⟩ := h
  obtain ⟨w1, hw1⟩ : ∃ w1, ((w.alloc (.cells #[.int .u16 (x.src : Int), .int .u16 (x.dst : Int), .int .u32 (x.seq : Int), .int .u32 (x.ack : Int), .int .u8 (x.flags.toNat : Int), .int .u16 (x.wnd : Int), .int .u16 (x.mss : Int), .slice A x.data.length c] 26)).alloc (.cells #[.int .u8 (s0.toNat : Int), .int .u8 (s1.toNat : Int), .int .u8 (s2.toNat : Int), .int .u8 (s3.toNat : Int)] 28)).alloc (.cells #[.int .u8 (d0.toNat : Int), .int .u8 (d1.toNat : Int), .int .u8 (d2.toNat : Int), .int .u8 (d3.toNat : Int)] 28) = w1 := ⟨_, rfl⟩
  have HB1 : Hid (Below w.heap.size w w1) := by show Below _ _ _; rw [← hw1]; exact (((Below.refl _ _).alloc (Nat.le_refl _) _).alloc (by simp) _).alloc (by simp; omega) _
  have hg1 : w1.heap[w.heap.size]? = some (.cells #[.int .u16 (x.src : Int), .int .u16 (x.dst : Int), .int .u32 (x.seq : Int), .int .u32 (x.ack : Int), .int .u8 (x.flags.toNat : Int), .int .u16 (x.wnd : Int), .int .u16 (x.mss : Int), .slice A x.data.length c] 26 (0, 0)) := by rw [← hw1]; exact old_alloc (old_alloc (heap_alloc_new w _) _) _
  have hgs : w1.heap[w.heap.size + 1]? = some (.cells #[.int .u8 (s0.toNat : Int), .int .u8 (s1.toNat : Int), .int .u8 (s2.toNat : Int), .int .u8 (s3.toNat : Int)] 28 (0, 0)) := by
    have := heap_alloc_new (w.alloc (.cells #[.int .u16 (x.src : Int), .int .u16 (x.dst : Int), .int .u32 (x.seq : Int), .int .u32 (x.ack : Int), .int .u8 (x.flags.toNat : Int), .int .u16 (x.wnd : Int), .int .u16 (x.mss : Int), .slice A x.data.length c] 26)) (.cells #[.int .u8 (s0.toNat : Int), .int .u8 (s1.toNat : Int), .int .u8 (s2.toNat : Int), .int .u8 (s3.toNat : Int)] 28)
    rw [World.size_alloc] at this
    rw [← hw1]
    exact old_alloc this _
  have hgd : w1.heap[w.heap.size + 2]? = some (.cells #[.int .u8 (d0.toNat : Int), .int .u8 (d1.toNat : Int), .int .u8 (d2.toNat : Int), .int .u8 (d3.toNat : Int)] 28 (0, 0)) := by
    have := heap_alloc_new ((w.alloc (.cells #[.int .u16 (x.src : Int), .int .u16 (x.dst : Int), .int .u32 (x.seq : Int), .int .u32 (x.ack : Int), .int .u8 (x.flags.toNat : Int), .int .u16 (x.wnd : Int), .int .u16 (x.mss : Int), .slice A x.data.length c] 26)).alloc (.cells #[.int .u8 (s0.toNat : Int), .int .u8 (s1.toNat : Int), .int .u8 (s2.toNat : Int), .int .u8 (s3.toNat : Int)] 28)) (.cells #[.int .u8 (d0.toNat : Int), .int .u8 (d1.toNat : Int), .int .u8 (d2.toNat : Int), .int .u8 (d3.toNat : Int)] 28)
    rw [World.size_alloc, World.size_alloc] at this
    rw [← hw1]
    exact this
  have HRD := Lib.hid (hrd.below (B := w.heap.size) HB1.out hhi)
  have HHI := Lib.hid hhi
  have hfl := x.flags.toNat_lt
  have HSZ : Hid (x.size = 20 + (optL x.mss).length + x.data.length) := rfl
  have HFR : Hid (x.front = two x.src ++ two x.dst ++ four x.seq ++ four x.ack ++ [wordsL x.mss, x.flags] ++ two x.wnd) := rfl
  have HBK : Hid (x.back = two 0 ++ optL x.mss ++ x.data) := rfl
  have HBY : Hid (x.bytes [s0, s1, s2, s3] [d0, d1, d2, d3] = x.front ++ two (sgSum [s0, s1, s2, s3] [d0, d1, d2, d3] x) ++ x.back) := rfl
  have HBA : Hid (sgBare [s0, s1, s2, s3] [d0, d1, d2, d3] x = pseudoT [s0, s1, s2, s3] [d0, d1, d2, d3] x.size ++ (x.front ++ two 0 ++ x.back)) := rfl
  have HSU : Hid (sgSum [s0, s1, s2, s3] [d0, d1, d2, d3] x = 65535 - sumL (sgBare [s0, s1, s2, s3] [d0, d1, d2, d3] x)) := rfl
  have HFL16 : Hid (x.front.length = 16) := front_len x
  obtain ⟨ho1, ho2, ho3, ho4, ho5, ho6⟩ := hok
  obtain ⟨hm1, hm2⟩ := hm
  generalize sgSum [s0, s1, s2, s3] [d0, d1, d2, d3] x = S at HBY HSU
  generalize x.bytes [s0, s1, s2, s3] [d0, d1, d2, d3] = bs at HBY ⊢
  generalize sgBare [s0, s1, s2, s3] [d0, d1, d2, d3] x = ba at HBA HSU
  generalize x.size = m at HSZ HBA
  obtain ⟨front, hfr⟩ : ∃ f, x.front = f := ⟨_, rfl⟩
  rw [hfr] at HFR HBY HBA HFL16
  clear hfr
  obtain ⟨back, hbk⟩ : ∃ f, x.back = f := ⟨_, rfl⟩
  rw [hbk] at HBK HBY HBA
  clear hbk
  obtain ⟨src, dst, seq, ack, flags, wnd, mss, data⟩ := x
  simp only at *
  have HO1 := Lib.hid ho1
  have HO2 := Lib.hid ho2
  have HO3 := Lib.hid ho3
  have HO4 := Lib.hid ho4
  have HO5 := Lib.hid ho5
  have HO6 := Lib.hid ho6
  have HC1 : Hid (IntKind.i64.wrap (src : Int) = (src : Int)) := IntWalk.i64_in _ ⟨by omega, by omega⟩
  have HC2 : Hid (IntKind.i64.wrap (dst : Int) = (dst : Int)) := IntWalk.i64_in _ ⟨by omega, by omega⟩
  have HC5 : Hid (IntKind.i64.wrap (wnd : Int) = (wnd : Int)) := IntWalk.i64_in _ ⟨by omega, by omega⟩
  have hc6 : IntKind.i64.wrap (mss : Int) = (mss : Int) := IntWalk.i64_in _ ⟨by omega, by omega⟩
  obtain ⟨n, hn⟩ : ∃ n, data.length = n := ⟨_, rfl⟩
  rw [hn] at hl hlc hg1 HSZ hw1 ⊢
  have HN := Lib.hid hn
  have K0 : Hid (∀ w', Below w1.heap.size w1 w' → w'.cell? ⟨w.heap.size, 0, none⟩ = some (.int .u16 (src : Int))) := fun w' hg => cell_of_row _ _ 0 _ _ _ ((hg.block _ (row_lt hg1)).trans hg1)
  have K1 : Hid (∀ w', Below w1.heap.size w1 w' → w'.cell? ⟨w.heap.size, 1, none⟩ = some (.int .u16 (dst : Int))) := fun w' hg => cell_of_row _ _ 1 _ _ _ ((hg.block _ (row_lt hg1)).trans hg1)
  have K2 : Hid (∀ w', Below w1.heap.size w1 w' → w'.cell? ⟨w.heap.size, 2, none⟩ = some (.int .u32 (seq : Int))) := fun w' hg => cell_of_row _ _ 2 _ _ _ ((hg.block _ (row_lt hg1)).trans hg1)
  have K3 : Hid (∀ w', Below w1.heap.size w1 w' → w'.cell? ⟨w.heap.size, 3, none⟩ = some (.int .u32 (ack : Int))) := fun w' hg => cell_of_row _ _ 3 _ _ _ ((hg.block _ (row_lt hg1)).trans hg1)
  have K4 : Hid (∀ w', Below w1.heap.size w1 w' → w'.cell? ⟨w.heap.size, 4, none⟩ = some (.int .u8 (flags.toNat : Int))) := fun w' hg => cell_of_row _ _ 4 _ _ _ ((hg.block _ (row_lt hg1)).trans hg1)
  have K5 : Hid (∀ w', Below w1.heap.size w1 w' → w'.cell? ⟨w.heap.size, 5, none⟩ = some (.int .u16 (wnd : Int))) := fun w' hg => cell_of_row _ _ 5 _ _ _ ((hg.block _ (row_lt hg1)).trans hg1)
  have K6 : Hid (∀ w', Below w1.heap.size w1 w' → w'.cell? ⟨w.heap.size, 6, none⟩ = some (.int .u16 (mss : Int))) := fun w' hg => cell_of_row _ _ 6 _ _ _ ((hg.block _ (row_lt hg1)).trans hg1)
  have K7 : Hid (∀ w', Below w1.heap.size w1 w' → w'.cell? ⟨w.heap.size, 7, none⟩ = some (.slice A n c)) := fun w' hg => cell_of_row _ _ 7 _ _ _ ((hg.block _ (row_lt hg1)).trans hg1)
  have HGS := Lib.hid hgs
  have HGD := Lib.hid hgd
  have HW1 : Hid (w.heap.size + 2 < w1.heap.size) := row_lt hgd
  have k7 := K7.out w1 (Below.refl _ _)
  have k4 := K4.out w1 (Below.refl _ _)
  have k6 := K6.out w1 (Below.refl _ _)
  unfold maxLen at hcm
  clear hgs hgd hg1 hn ho1 ho2 ho3 ho4 ho5 ho6 hrd hhi hA
  by_cases h0 : mss = 0
  · have HOL : Hid ((optL mss).length = 0) := by show _ = _; rw [h0]; rfl
    have HOPT : Hid (optL mss = []) := by show _ = _; rw [h0]; rfl
    have HWD : Hid (wordsL mss = 80) := by show _ = _; rw [h0]; rfl
    have q0 := bneF (show (mss : Int) = 0 by omega)
    have HFR2 : Hid (front = two src ++ two dst ++ four seq ++ four ack ++ [80, flags] ++ two wnd) := by show _ = _; rw [HFR.out, HWD.out]
    have HBW : Hid (Below w1.heap.size w1 w1) := Below.refl _ _
    have HB2 := HB1
    clear h0 hm2
    go_enter Try.func12, Try.ntmps12
    go_upto_region 8 with (fail)
    try rw [hw1]
    --STOP1
    --STOP2
    apply wp_region_rely (fun _ => False) (RL [Is _, Is _, Is (.int .i64 (src : Int)), Is (txt (two src)), Is _, Is _, Is (.int .i64 (dst : Int)), Is (txt (two dst)), Is (txt (two src ++ two dst)), Is _, Is _, Is (txt (four seq)), Is (txt (two src ++ two dst ++ four seq)), Is _, Is _, Is (txt (four ack)), Is (txt (two src ++ two dst ++ four seq ++ four ack)), Is (.int .u8 80), Is _, Is _, Fresh w1.heap.size [80, flags], Is (txt [80, flags]), Is (txt (two src ++ two dst ++ four seq ++ four ack ++ [80, flags])), Is _, Is _, Is (.int .i64 (wnd : Int)), Is (txt (two wnd)), Is (txt (two src ++ two dst ++ four seq ++ four ack ++ [80, flags] ++ two wnd)), Is (txt (two src ++ two dst ++ four seq ++ four ack ++ [80, flags] ++ two wnd))]) [false, false, false, false, false, false, false, false, false, false, true, false, false, false, false, false, false, false, false, false, false, false, false, false, false, false, false, false, false, false, false, false, false, false, false, false, false, false, false, false, true, true, true, true, true, true, true, true, true, true, true, true, true, true, true, true, true, true, true, true, true, true, true, true, true, true, true, true, false, false, false, false, false, false, false, false, false, false, false, false, false, false, false, false, false, false, false, false, false, false, false, false, false, false, false, false]
    · kernel_rfl
    · kernel_rfl
    · kernel_rfl
    · refine ⟨?_, ?_, ?_, ?_, ?_, ?_, ?_, ?_, ?_, ?_, ?_, ?_, ?_, ?_, ?_, ?_, ?_, ?_, ?_, ?_, ?_, ?_, ?_, ?_, ?_, ?_, ?_, ?_, ?_, trivial⟩
      · intro ev w' hC hc hf hb hr K hK
        have e3 : ev (.tmp 3) = _ := hb 3 (by kernel_rfl)
        have HK := Lib.hid hK
        have HC := Lib.hid hC
        clear hb hr hK hC hf
        unfold Run
        simp [execOp, Upon, go_sem, *]
        exact HK.out _ _ (.inl (Below.refl _ _)) rfl
      · intro ev w' hC hc hf hb hr K hK
        have e40 := hr 0 _ rfl (by kernel_rfl)
        change ev (.tmp 40) = _ at e40
        have HK := Lib.hid hK
        have HC := Lib.hid hC
        clear hb hr hK hC hf
        have k0' := K0.out w' (HBW.out.trans (HC.out.belowF.mono HBW.out.size))
        unfold Run
        simp [execOp, Upon, go_sem, *]
        exact HK.out _ _ (.inl (Below.refl _ _)) rfl
      · intro ev w' hC hc hf hb hr K hK
        have e41 := hr 1 _ rfl (by kernel_rfl)
        change ev (.tmp 41) = _ at e41
        have HK := Lib.hid hK
        have HC := Lib.hid hC
        clear hb hr hK hC hf
        have hw := HC1.out
        unfold Run
        simp [execOp, Upon, go_sem, *]
        exact HK.out _ _ (.inl (Below.refl _ _)) (by show Value.int _ _ = Value.int _ _; congr 1; first | done | exact HC1.out)
      · intro ev w' hC hc hf hb hr K hK
        have e42 := hr 2 _ rfl (by kernel_rfl)
        change ev (.tmp 42) = _ at e42
        have HK := Lib.hid hK
        have HC := Lib.hid hC
        clear hb hr hK hC
        unfold Run
        simp [execOp, Upon, go_sem, *]
        refine (refword_all src _ (by have := HO1.out; omega)).mono ?_
        rintro e w3 ⟨rfl, hb⟩
        exact ⟨_, rfl, HK.out _ _ (.inl hb) rfl⟩
      · intro ev w' hC hc hf hb hr K hK
        have e3 : ev (.tmp 3) = _ := hb 3 (by kernel_rfl)
        have HK := Lib.hid hK
        have HC := Lib.hid hC
        clear hb hr hK hC hf
        unfold Run
        simp [execOp, Upon, go_sem, *]
        exact HK.out _ _ (.inl (Below.refl _ _)) rfl
      · intro ev w' hC hc hf hb hr K hK
        have e44 := hr 4 _ rfl (by kernel_rfl)
        change ev (.tmp 44) = _ at e44
        have HK := Lib.hid hK
        have HC := Lib.hid hC
        clear hb hr hK hC hf
        have k1' := K1.out w' (HBW.out.trans (HC.out.belowF.mono HBW.out.size))
        unfold Run
        simp [execOp, Upon, go_sem, *]
        exact HK.out _ _ (.inl (Below.refl _ _)) rfl
      · intro ev w' hC hc hf hb hr K hK
        have e45 := hr 5 _ rfl (by kernel_rfl)
        change ev (.tmp 45) = _ at e45
        have HK := Lib.hid hK
        have HC := Lib.hid hC
        clear hb hr hK hC hf
        have hw := HC2.out
        unfold Run
        simp [execOp, Upon, go_sem, *]
        exact HK.out _ _ (.inl (Below.refl _ _)) (by show Value.int _ _ = Value.int _ _; congr 1; first | done | exact HC2.out)
      · intro ev w' hC hc hf hb hr K hK
        have e46 := hr 6 _ rfl (by kernel_rfl)
        change ev (.tmp 46) = _ at e46
        have HK := Lib.hid hK
        have HC := Lib.hid hC
        clear hb hr hK hC
        unfold Run
        simp [execOp, Upon, go_sem, *]
        refine (refword_all dst _ (by have := HO2.out; omega)).mono ?_
        rintro e w3 ⟨rfl, hb⟩
        exact ⟨_, rfl, HK.out _ _ (.inl hb) rfl⟩
      · intro ev w' hC hc hf hb hr K hK
        have e43 := hr 3 _ rfl (by kernel_rfl)
        have e47 := hr 7 _ rfl (by kernel_rfl)
        change ev (.tmp 43) = _ at e43
        change ev (.tmp 47) = _ at e47
        have HK := Lib.hid hK
        have HC := Lib.hid hC
        clear hb hr hK hC hf
        have hap : (⟨(two src).toArray⟩ : ByteArray) ++ ⟨(two dst).toArray⟩ = ⟨(two src ++ two dst).toArray⟩ := str_app _ _
        have hl1 : (two src).length = 2 := rfl
        have hl2 : (two dst).length = 2 := rfl
        unfold Run
        simp [execOp, Upon, go_sem, *]
        first
          | exact HK.out _ _ (.inl (Below.refl _ _)) rfl
          | exact HK.out _ _ (.inl (Below.refl _ _)) (by show Value.string _ = Value.string _; congr 1)
      · intro ev w' hC hc hf hb hr K hK
        have e3 : ev (.tmp 3) = _ := hb 3 (by kernel_rfl)
        have HK := Lib.hid hK
        have HC := Lib.hid hC
        clear hb hr hK hC hf
        unfold Run
        simp [execOp, Upon, go_sem, *]
        exact HK.out _ _ (.inl (Below.refl _ _)) rfl
      · intro ev w' hC hc hf hb hr K hK
        have e49 := hr 9 _ rfl (by kernel_rfl)
        change ev (.tmp 49) = _ at e49
        have HK := Lib.hid hK
        have HC := Lib.hid hC
        clear hb hr hK hC hf
        have k2' := K2.out w' (HBW.out.trans (HC.out.belowF.mono HBW.out.size))
        unfold Run
        simp [execOp, Upon, go_sem, *]
        exact HK.out _ _ (.inl (Below.refl _ _)) rfl
      · intro ev w' hC hc hf hb hr K hK
        have e50 := hr 10 _ rfl (by kernel_rfl)
        change ev (.tmp 50) = _ at e50
        have HK := Lib.hid hK
        have HC := Lib.hid hC
        clear hb hr hK hC
        unfold Run
        simp [execOp, Upon, go_sem, *]
        refine (rfour_any seq _ HO3.out).mono ?_
        rintro e w3 ⟨rfl, hb⟩
        exact ⟨_, rfl, HK.out _ _ (.inl hb) rfl⟩
      · intro ev w' hC hc hf hb hr K hK
        have e48 := hr 8 _ rfl (by kernel_rfl)
        have e51 := hr 11 _ rfl (by kernel_rfl)
        change ev (.tmp 48) = _ at e48
        change ev (.tmp 51) = _ at e51
        have HK := Lib.hid hK
        have HC := Lib.hid hC
        clear hb hr hK hC hf
        have hap : (⟨(two src ++ two dst).toArray⟩ : ByteArray) ++ ⟨(four seq).toArray⟩ = ⟨(two src ++ two dst ++ four seq).toArray⟩ := str_app _ _
        have hl1 : (two src ++ two dst).length = 4 := rfl
        have hl2 : (four seq).length = 4 := rfl
        unfold Run
        simp [execOp, Upon, go_sem, *]
        first
          | exact HK.out _ _ (.inl (Below.refl _ _)) rfl
          | exact HK.out _ _ (.inl (Below.refl _ _)) (by show Value.string _ = Value.string _; congr 1)
      · intro ev w' hC hc hf hb hr K hK
        have e3 : ev (.tmp 3) = _ := hb 3 (by kernel_rfl)
        have HK := Lib.hid hK
        have HC := Lib.hid hC
        clear hb hr hK hC hf
        unfold Run
        simp [execOp, Upon, go_sem, *]
        exact HK.out _ _ (.inl (Below.refl _ _)) rfl
      · intro ev w' hC hc hf hb hr K hK
        have e53 := hr 13 _ rfl (by kernel_rfl)
        change ev (.tmp 53) = _ at e53
        have HK := Lib.hid hK
        have HC := Lib.hid hC
        clear hb hr hK hC hf
        have k3' := K3.out w' (HBW.out.trans (HC.out.belowF.mono HBW.out.size))
        unfold Run
        simp [execOp, Upon, go_sem, *]
        exact HK.out _ _ (.inl (Below.refl _ _)) rfl
      · intro ev w' hC hc hf hb hr K hK
        have e54 := hr 14 _ rfl (by kernel_rfl)
        change ev (.tmp 54) = _ at e54
        have HK := Lib.hid hK
        have HC := Lib.hid hC
        clear hb hr hK hC
        unfold Run
        simp [execOp, Upon, go_sem, *]
        refine (rfour_any ack _ HO4.out).mono ?_
        rintro e w3 ⟨rfl, hb⟩
        exact ⟨_, rfl, HK.out _ _ (.inl hb) rfl⟩
      · intro ev w' hC hc hf hb hr K hK
        have e52 := hr 12 _ rfl (by kernel_rfl)
        have e55 := hr 15 _ rfl (by kernel_rfl)
        change ev (.tmp 52) = _ at e52
        change ev (.tmp 55) = _ at e55
        have HK := Lib.hid hK
        have HC := Lib.hid hC
        clear hb hr hK hC hf
        have hap : (⟨(two src ++ two dst ++ four seq).toArray⟩ : ByteArray) ++ ⟨(four ack).toArray⟩ = ⟨(two src ++ two dst ++ four seq ++ four ack).toArray⟩ := str_app _ _
        have hl1 : (two src ++ two dst ++ four seq).length = 8 := rfl
        have hl2 : (four ack).length = 4 := rfl
        unfold Run
        simp [execOp, Upon, go_sem, *]
        first
          | exact HK.out _ _ (.inl (Below.refl _ _)) rfl
          | exact HK.out _ _ (.inl (Below.refl _ _)) (by show Value.string _ = Value.string _; congr 1)
      · intro ev w' hC hc hf hb hr K hK
        have e9 : ev (.tmp 9) = _ := hb 9 (by kernel_rfl)
        have HK := Lib.hid hK
        have HC := Lib.hid hC
        clear hb hr hK hC hf
        unfold Run
        simp [execOp, Upon, go_sem, *]
        exact HK.out _ _ (.inl (Below.refl _ _)) rfl
      · intro ev w' hC hc hf hb hr K hK
        have e3 : ev (.tmp 3) = _ := hb 3 (by kernel_rfl)
        have HK := Lib.hid hK
        have HC := Lib.hid hC
        clear hb hr hK hC hf
        unfold Run
        simp [execOp, Upon, go_sem, *]
        exact HK.out _ _ (.inl (Below.refl _ _)) rfl
      · intro ev w' hC hc hf hb hr K hK
        have e58 := hr 18 _ rfl (by kernel_rfl)
        change ev (.tmp 58) = _ at e58
        have HK := Lib.hid hK
        have HC := Lib.hid hC
        clear hb hr hK hC hf
        have k4' := K4.out w' (HBW.out.trans (HC.out.belowF.mono HBW.out.size))
        unfold Run
        simp [execOp, Upon, go_sem, *]
        exact HK.out _ _ (.inl (Below.refl _ _)) rfl
      · intro ev w' hC hc hf hb hr K hK
        have e57 := hr 17 _ rfl (by kernel_rfl)
        have e59 := hr 19 _ rfl (by kernel_rfl)
        change ev (.tmp 57) = _ at e57
        change ev (.tmp 59) = _ at e59
        have HK := Lib.hid hK
        have HC := Lib.hid hC
        clear hb hr hK hC hf
        unfold Run
        simp [execOp, Upon, go_sem, *]
        exact HK.out _ _ (.inl ((Below.refl _ _).alloc (Nat.le_refl _) _)) ⟨some ⟨w'.heap.size, 0, none⟩, 2, rfl, by rw [World.size_alloc]; exact (rd_new w' (cells [80, flags]) 5 (0, 0)).wide HC.out.size (Nat.le_refl _), (fun h => by cases h), Nat.le_refl _, (by unfold maxLen; simp)⟩
      · intro ev w' hC hc hf hb hr K hK
        have e60 := hr 20 _ rfl (by kernel_rfl)
        change (Fresh w1.heap.size [80, flags] : Pred) (ev (.tmp 60)) _ at e60
        have HK := Lib.hid hK
        have HC := Lib.hid hC
        clear hb hr hK hC hf
        obtain ⟨A60, c60, q60, r60, _⟩ := e60
        have kt := run_text (P := Try.prog) w' 24 9 5 c60 Try.underlying24 Try.underlying5 Try.underlying9 r60
        clear r60
        simp only [List.length_cons, List.length_nil, Nat.zero_add] at q60 kt
        unfold Run
        simp [execOp, Upon, go_sem, *]
        exact HK.out _ _ (.inl (Below.refl _ _)) rfl
      · intro ev w' hC hc hf hb hr K hK
        have e56 := hr 16 _ rfl (by kernel_rfl)
        have e61 := hr 21 _ rfl (by kernel_rfl)
        change ev (.tmp 56) = _ at e56
        change ev (.tmp 61) = _ at e61
        have HK := Lib.hid hK
        have HC := Lib.hid hC
        clear hb hr hK hC hf
        have hap : (⟨(two src ++ two dst ++ four seq ++ four ack).toArray⟩ : ByteArray) ++ ⟨([80, flags]).toArray⟩ = ⟨(two src ++ two dst ++ four seq ++ four ack ++ [80, flags]).toArray⟩ := str_app _ _
        have hl1 : (two src ++ two dst ++ four seq ++ four ack).length = 12 := rfl
        have hl2 : ([80, flags]).length = 2 := rfl
        unfold Run
        simp [execOp, Upon, go_sem, *]
        first
          | exact HK.out _ _ (.inl (Below.refl _ _)) rfl
          | exact HK.out _ _ (.inl (Below.refl _ _)) (by show Value.string _ = Value.string _; congr 1)
      · intro ev w' hC hc hf hb hr K hK
        have e3 : ev (.tmp 3) = _ := hb 3 (by kernel_rfl)
        have HK := Lib.hid hK
        have HC := Lib.hid hC
        clear hb hr hK hC hf
        unfold Run
        simp [execOp, Upon, go_sem, *]
        exact HK.out _ _ (.inl (Below.refl _ _)) rfl
      · intro ev w' hC hc hf hb hr K hK
        have e63 := hr 23 _ rfl (by kernel_rfl)
        change ev (.tmp 63) = _ at e63
        have HK := Lib.hid hK
        have HC := Lib.hid hC
        clear hb hr hK hC hf
        have k5' := K5.out w' (HBW.out.trans (HC.out.belowF.mono HBW.out.size))
        unfold Run
        simp [execOp, Upon, go_sem, *]
        exact HK.out _ _ (.inl (Below.refl _ _)) rfl
      · intro ev w' hC hc hf hb hr K hK
        have e64 := hr 24 _ rfl (by kernel_rfl)
        change ev (.tmp 64) = _ at e64
        have HK := Lib.hid hK
        have HC := Lib.hid hC
        clear hb hr hK hC hf
        have hw := HC5.out
        unfold Run
        simp [execOp, Upon, go_sem, *]
        exact HK.out _ _ (.inl (Below.refl _ _)) (by show Value.int _ _ = Value.int _ _; congr 1; first | done | exact HC5.out)
      · intro ev w' hC hc hf hb hr K hK
        have e65 := hr 25 _ rfl (by kernel_rfl)
        change ev (.tmp 65) = _ at e65
        have HK := Lib.hid hK
        have HC := Lib.hid hC
        clear hb hr hK hC
        unfold Run
        simp [execOp, Upon, go_sem, *]
        refine (refword_all wnd _ (by have := HO5.out; omega)).mono ?_
        rintro e w3 ⟨rfl, hb⟩
        exact ⟨_, rfl, HK.out _ _ (.inl hb) rfl⟩
      · intro ev w' hC hc hf hb hr K hK
        have e62 := hr 22 _ rfl (by kernel_rfl)
        have e66 := hr 26 _ rfl (by kernel_rfl)
        change ev (.tmp 62) = _ at e62
        change ev (.tmp 66) = _ at e66
        have HK := Lib.hid hK
        have HC := Lib.hid hC
        clear hb hr hK hC hf
        have hap : (⟨(two src ++ two dst ++ four seq ++ four ack ++ [80, flags]).toArray⟩ : ByteArray) ++ ⟨(two wnd).toArray⟩ = ⟨(two src ++ two dst ++ four seq ++ four ack ++ [80, flags] ++ two wnd).toArray⟩ := str_app _ _
        have hl1 : (two src ++ two dst ++ four seq ++ four ack ++ [80, flags]).length = 14 := rfl
        have hl2 : (two wnd).length = 2 := rfl
        unfold Run
        simp [execOp, Upon, go_sem, *]
        first
          | exact HK.out _ _ (.inl (Below.refl _ _)) rfl
          | exact HK.out _ _ (.inl (Below.refl _ _)) (by show Value.string _ = Value.string _; congr 1)
      · intro ev w' hC hc hf hb hr K hK
        have e67 := hr 27 _ rfl (by kernel_rfl)
        change ev (.tmp 67) = _ at e67
        have HK := Lib.hid hK
        have HC := Lib.hid hC
        clear hb hr hK hC hf
        unfold Run
        simp [execOp, Upon, go_sem, *]
        exact HK.out _ _ (.inl (Below.refl _ _)) rfl
    · exact rl_mono ⟨is_mono _, is_mono _, is_mono _, is_mono _, is_mono _, is_mono _, is_mono _, is_mono _, is_mono _, is_mono _, is_mono _, is_mono _, is_mono _, is_mono _, is_mono _, is_mono _, is_mono _, is_mono _, is_mono _, is_mono _, fresh_mono _ _, is_mono _, is_mono _, is_mono _, is_mono _, is_mono _, is_mono _, is_mono _, is_mono _, trivial⟩
    intro us wr hG hH
    obtain ⟨-, -, -, -, -, -, -, -, -, -, -, -, -, -, -, -, -, -, -, -, -, -, -, -, -, -, -, -, h28, -⟩ := hH
    simp only [fillM]
    change us 10 = _ at h28
    rw [h28]
    clear h28
    generalize us 40 = v40
    generalize us 41 = v41
    generalize us 42 = v42
    generalize us 43 = v43
    generalize us 44 = v44
    generalize us 45 = v45
    generalize us 46 = v46
    generalize us 47 = v47
    generalize us 48 = v48
    generalize us 49 = v49
    generalize us 50 = v50
    generalize us 51 = v51
    generalize us 52 = v52
    generalize us 53 = v53
    generalize us 54 = v54
    generalize us 55 = v55
    generalize us 56 = v56
    generalize us 57 = v57
    generalize us 58 = v58
    generalize us 59 = v59
    generalize us 60 = v60
    generalize us 61 = v61
    generalize us 62 = v62
    generalize us 63 = v63
    generalize us 64 = v64
    generalize us 65 = v65
    generalize us 66 = v66
    generalize us 67 = v67
    rw [← HFR2.out]
    have HBR : Hid (Below w.heap.size w wr) := HB2.out.trans (hG.belowF.mono HB2.out.size)
    have HBWr : Hid (Below w1.heap.size w1 wr) := HBW.out.trans (hG.belowF.mono HBW.out.size)
    have k7r := K7.out wr HBWr.out
    have hrr : Rd wr 0 wr.heap.size A (cells data) := (HRD.out.below HBWr.out (by have := HHI.out; have := HB1.out.size; omega)).wide (Nat.zero_le _) (by have := HHI.out; have := HBR.out.size; omega)
    have ht := run_text (P := Try.prog) wr 24 9 5 c Try.underlying24 Try.underlying5 Try.underlying9 hrr
    rw [HN.out] at ht
    have HGSr := Lib.hid ((HBWr.out.block (w.heap.size + 1) (by have := HW1.out; omega)).trans HGS.out)
    have HGDr := Lib.hid ((HBWr.out.block (w.heap.size + 2) (by have := HW1.out; omega)).trans HGD.out)
    have hdl : data.length ≤ 156 := by have := HN.out; omega
    have hbl : back.length = 2 + data.length := by rw [HBK.out, List.length_append, List.length_append, two_length, HOL.out]
    have hfl16 : front.length = 16 := HFL16.out
    have hback : (⟨#[0, 0]⟩ : ByteArray) ++ ⟨#[]⟩ ++ ⟨data.toArray⟩ = ⟨back.toArray⟩ := by
      rw [HBK.out, HOPT.out]
      apply ByteArray.ext
      simp [two]
    have hms2 : (two mss).length = 2 := rfl
    have HBACK := Lib.hid hback
    clear hrr hG
    --STOP3
    go_upto_region 10 with (fail)
    --STOP4
    try rw [HBACK.out]
    clear ht hback hms2 k7r
    have hbl2 : back.length ≤ 200 := by omega
    have hmm : (front.length : Int) + 2 + (back.length : Int) = (m : Int) := by rw [HSZ.out]; have h1 := HOL.out; have h2 := HN.out; omega
    have hm200 : m ≤ 200 := by rw [HSZ.out]; have h1 := HOL.out; have h2 := HN.out; omega
    have HV2 : Hid ((18 : Int) + (back.length : Int) = (m : Int)) := by show _ = _; omega
    have hps0 := refpseudo_any s0 s1 s2 s3 d0 d1 d2 d3 6 m wr (by omega)
    rw [show (((6 : UInt8).toNat : Nat) : Int) = 6 from rfl] at hps0
    obtain ⟨ps, hps⟩ : ∃ ps, pseudoT [s0, s1, s2, s3] [d0, d1, d2, d3] m = ps := ⟨_, rfl⟩
    have hps2 : [s0, s1, s2, s3] ++ [d0, d1, d2, d3] ++ [0, 6] ++ two m = ps := hps
    rw [hps2] at hps0
    rw [hps] at HBA
    have hpl : ps.length = 12 := by rw [← hps]; rfl
    have HPS := Lib.hid hps0
    clear hps hps2 hps0 hbl HSZ
    --STOP5
    go_wp2_with (first | refine wpList_load_row rfl 28 _ rfl (w.heap.size + 1) rfl 28 #[.int .u8 (s0.toNat : Int), .int .u8 (s1.toNat : Int), .int .u8 (s2.toNat : Int), .int .u8 (s3.toNat : Int)] (0, 0) _ HGSr.out Try.underlying28 rfl (by kernel_rfl) ?_ | refine wpList_load_row rfl 28 _ rfl (w.heap.size + 2) rfl 28 #[.int .u8 (d0.toNat : Int), .int .u8 (d1.toNat : Int), .int .u8 (d2.toNat : Int), .int .u8 (d3.toNat : Int)] (0, 0) _ HGDr.out Try.underlying28 rfl (by kernel_rfl) ?_)
    try rw [HV2.out]
    --STOP6
    refine HPS.out.mono ?_
    rintro e w6 ⟨rfl, hb6⟩
    have HB6 := Lib.hid (HBR.out.trans (hb6.mono HBR.out.size))
    clear hb6
    have hcat : (⟨ps.toArray⟩ : ByteArray) ++ ⟨front.toArray⟩ ++ ⟨#[0, 0]⟩ ++ ⟨back.toArray⟩ = ⟨ba.toArray⟩ := by
      rw [HBA.out]
      apply ByteArray.ext
      simp [two]
    have hsum := refsum_any ba w6 (by rw [HBA.out]; simp [hpl, two_length]; omega)
    rw [← HSU.out] at hsum
    have HSUM := Lib.hid hsum
    have HCAT := Lib.hid hcat
    clear hsum hcat
    unfold txt
    --STOP7
    go_wp2_with fail
    try rw [HCAT.out]
    unfold txt at HSUM
    --STOP8
    refine HSUM.out.mono ?_
    rintro e w7 ⟨rfl, rfl⟩
    have hs2 : S < 65536 := by rw [HSU.out]; omega
    have hcs : IntKind.i64.wrap (S : Int) = (S : Int) := IntWalk.i64_in _ ⟨by omega, by omega⟩
    have HWD2 := Lib.hid (refword_all S w6 (by omega))
    have htl : (two S).length = 2 := rfl
    have hbs : (⟨front.toArray⟩ : ByteArray) ++ ⟨(two S).toArray⟩ ++ ⟨back.toArray⟩ = ⟨bs.toArray⟩ := by
      rw [HBY.out]
      apply ByteArray.ext
      simp
    have HBS := Lib.hid hbs
    clear hbs
    go_wp2_with fail
    refine HWD2.out.mono ?_
    rintro e w8 ⟨rfl, hb8⟩
    have HB8 := Lib.hid (HB6.out.trans (hb8.mono HB6.out.size))
    clear hb8
    unfold txt
    --STOP9
    go_wp2
    go_ret2
    exact ⟨by show Ending.returned (.tuple #[.string ((⟨front.toArray⟩ : ByteArray) ++ ⟨(two S).toArray⟩ ++ ⟨back.toArray⟩), .int .i64 0]) = _; rw [HBS.out], HB8.out⟩
  · have HOPT : Hid (optL mss = [2, 4] ++ two mss) := by show _ = _; unfold optL; rw [if_neg h0]
    have HOL : Hid ((optL mss).length = 4) := by show _ = _; rw [HOPT.out]; rfl
    have HWD : Hid (wordsL mss = 96) := by show _ = _; unfold wordsL; rw [if_neg h0]
    have q0 := bneT (show (mss : Int) ≠ 0 by omega)
    have hb2 := hm2 h0
    have q2 : ((flags.toNat : Int) / 2 % 2 == 0) = false := beqF (by omega)
    have HFR2 : Hid (front = two src ++ two dst ++ four seq ++ four ack ++ [96, flags] ++ two wnd) := by show _ = _; rw [HFR.out, HWD.out]
    have HWM := Lib.hid (refword_all mss w1 (by have := HO6.out; omega))
    have htm : (two mss).length = 2 := rfl
    clear h0 hm2 hb2
    go_enter Try.func12, Try.ntmps12
    go_wp2_with fail
    try rw [hw1]
    refine HWM.out.mono ?_
    rintro e w2 ⟨rfl, hb2⟩
    have HBW := Lib.hid hb2
    have HB2 : Hid (Below w.heap.size w w2) := HB1.out.trans (hb2.mono HB1.out.size)
    clear hb2
    unfold txt
    --STOP1
    go_upto_region 8 with (fail)
    --STOP2
    apply wp_region_rely (fun _ => False) (RL [Is _, Is _, Is (.int .i64 (src : Int)), Is (txt (two src)), Is _, Is _, Is (.int .i64 (dst : Int)), Is (txt (two dst)), Is (txt (two src ++ two dst)), Is _, Is _, Is (txt (four seq)), Is (txt (two src ++ two dst ++ four seq)), Is _, Is _, Is (txt (four ack)), Is (txt (two src ++ two dst ++ four seq ++ four ack)), Is (.int .u8 96), Is _, Is _, Fresh w2.heap.size [96, flags], Is (txt [96, flags]), Is (txt (two src ++ two dst ++ four seq ++ four ack ++ [96, flags])), Is _, Is _, Is (.int .i64 (wnd : Int)), Is (txt (two wnd)), Is (txt (two src ++ two dst ++ four seq ++ four ack ++ [96, flags] ++ two wnd)), Is (txt (two src ++ two dst ++ four seq ++ four ack ++ [96, flags] ++ two wnd))]) [false, false, false, false, false, false, false, false, false, false, true, false, false, false, false, false, false, false, false, false, false, false, false, false, false, false, false, false, false, false, false, false, false, false, false, false, false, false, false, false, true, true, true, true, true, true, true, true, true, true, true, true, true, true, true, true, true, true, true, true, true, true, true, true, true, true, true, true, false, false, false, false, false, false, false, false, false, false, false, false, false, false, false, false, false, false, false, false, false, false, false, false, false, false, false, false]
    · kernel_rfl
    · kernel_rfl
    · kernel_rfl
    · refine ⟨?_, ?_, ?_, ?_, ?_, ?_, ?_, ?_, ?_, ?_, ?_, ?_, ?_, ?_, ?_, ?_, ?_, ?_, ?_, ?_, ?_, ?_, ?_, ?_, ?_, ?_, ?_, ?_, ?_, trivial⟩
      · intro ev w' hC hc hf hb hr K hK
        have e3 : ev (.tmp 3) = _ := hb 3 (by kernel_rfl)
        have HK := Lib.hid hK
        have HC := Lib.hid hC
        clear hb hr hK hC hf
        unfold Run
        simp [execOp, Upon, go_sem, *]
        exact HK.out _ _ (.inl (Below.refl _ _)) rfl
      · intro ev w' hC hc hf hb hr K hK
        have e40 := hr 0 _ rfl (by kernel_rfl)
        change ev (.tmp 40) = _ at e40
        have HK := Lib.hid hK
        have HC := Lib.hid hC
        clear hb hr hK hC hf
        have k0' := K0.out w' (HBW.out.trans (HC.out.belowF.mono HBW.out.size))
        unfold Run
        simp [execOp, Upon, go_sem, *]
        exact HK.out _ _ (.inl (Below.refl _ _)) rfl
      · intro ev w' hC hc hf hb hr K hK
        have e41 := hr 1 _ rfl (by kernel_rfl)
        change ev (.tmp 41) = _ at e41
        have HK := Lib.hid hK
        have HC := Lib.hid hC
        clear hb hr hK hC hf
        have hw := HC1.out
        unfold Run
        simp [execOp, Upon, go_sem, *]
        exact HK.out _ _ (.inl (Below.refl _ _)) (by show Value.int _ _ = Value.int _ _; congr 1; first | done | exact HC1.out)
      · intro ev w' hC hc hf hb hr K hK
        have e42 := hr 2 _ rfl (by kernel_rfl)
        change ev (.tmp 42) = _ at e42
        have HK := Lib.hid hK
        have HC := Lib.hid hC
        clear hb hr hK hC
        unfold Run
        simp [execOp, Upon, go_sem, *]
        refine (refword_all src _ (by have := HO1.out; omega)).mono ?_
        rintro e w3 ⟨rfl, hb⟩
        exact ⟨_, rfl, HK.out _ _ (.inl hb) rfl⟩
      · intro ev w' hC hc hf hb hr K hK
        have e3 : ev (.tmp 3) = _ := hb 3 (by kernel_rfl)
        have HK := Lib.hid hK
        have HC := Lib.hid hC
        clear hb hr hK hC hf
        unfold Run
        simp [execOp, Upon, go_sem, *]
        exact HK.out _ _ (.inl (Below.refl _ _)) rfl
      · intro ev w' hC hc hf hb hr K hK
        have e44 := hr 4 _ rfl (by kernel_rfl)
        change ev (.tmp 44) = _ at e44
        have HK := Lib.hid hK
        have HC := Lib.hid hC
        clear hb hr hK hC hf
        have k1' := K1.out w' (HBW.out.trans (HC.out.belowF.mono HBW.out.size))
        unfold Run
        simp [execOp, Upon, go_sem, *]
        exact HK.out _ _ (.inl (Below.refl _ _)) rfl
      · intro ev w' hC hc hf hb hr K hK
        have e45 := hr 5 _ rfl (by kernel_rfl)
        change ev (.tmp 45) = _ at e45
        have HK := Lib.hid hK
        have HC := Lib.hid hC
        clear hb hr hK hC hf
        have hw := HC2.out
        unfold Run
        simp [execOp, Upon, go_sem, *]
        exact HK.out _ _ (.inl (Below.refl _ _)) (by show Value.int _ _ = Value.int _ _; congr 1; first | done | exact HC2.out)
      · intro ev w' hC hc hf hb hr K hK
        have e46 := hr 6 _ rfl (by kernel_rfl)
        change ev (.tmp 46) = _ at e46
        have HK := Lib.hid hK
        have HC := Lib.hid hC
        clear hb hr hK hC
        unfold Run
        simp [execOp, Upon, go_sem, *]
        refine (refword_all dst _ (by have := HO2.out; omega)).mono ?_
        rintro e w3 ⟨rfl, hb⟩
        exact ⟨_, rfl, HK.out _ _ (.inl hb) rfl⟩
      · intro ev w' hC hc hf hb hr K hK
        have e43 := hr 3 _ rfl (by kernel_rfl)
        have e47 := hr 7 _ rfl (by kernel_rfl)
        change ev (.tmp 43) = _ at e43
        change ev (.tmp 47) = _ at e47
        have HK := Lib.hid hK
        have HC := Lib.hid hC
        clear hb hr hK hC hf
        have hap : (⟨(two src).toArray⟩ : ByteArray) ++ ⟨(two dst).toArray⟩ = ⟨(two src ++ two dst).toArray⟩ := str_app _ _
        have hl1 : (two src).length = 2 := rfl
        have hl2 : (two dst).length = 2 := rfl
        unfold Run
        simp [execOp, Upon, go_sem, *]
        first
          | exact HK.out _ _ (.inl (Below.refl _ _)) rfl
          | exact HK.out _ _ (.inl (Below.refl _ _)) (by show Value.string _ = Value.string _; congr 1)
      · intro ev w' hC hc hf hb hr K hK
        have e3 : ev (.tmp 3) = _ := hb 3 (by kernel_rfl)
        have HK := Lib.hid hK
        have HC := Lib.hid hC
        clear hb hr hK hC hf
        unfold Run
        simp [execOp, Upon, go_sem, *]
        exact HK.out _ _ (.inl (Below.refl _ _)) rfl
      · intro ev w' hC hc hf hb hr K hK
        have e49 := hr 9 _ rfl (by kernel_rfl)
        change ev (.tmp 49) = _ at e49
        have HK := Lib.hid hK
        have HC := Lib.hid hC
        clear hb hr hK hC hf
        have k2' := K2.out w' (HBW.out.trans (HC.out.belowF.mono HBW.out.size))
        unfold Run
        simp [execOp, Upon, go_sem, *]
        exact HK.out _ _ (.inl (Below.refl _ _)) rfl
      · intro ev w' hC hc hf hb hr K hK
        have e50 := hr 10 _ rfl (by kernel_rfl)
        change ev (.tmp 50) = _ at e50
        have HK := Lib.hid hK
        have HC := Lib.hid hC
        clear hb hr hK hC
        unfold Run
        simp [execOp, Upon, go_sem, *]
        refine (rfour_any seq _ HO3.out).mono ?_
        rintro e w3 ⟨rfl, hb⟩
        exact ⟨_, rfl, HK.out _ _ (.inl hb) rfl⟩
      · intro ev w' hC hc hf hb hr K hK
        have e48 := hr 8 _ rfl (by kernel_rfl)
        have e51 := hr 11 _ rfl (by kernel_rfl)
        change ev (.tmp 48) = _ at e48
        change ev (.tmp 51) = _ at e51
        have HK := Lib.hid hK
        have HC := Lib.hid hC
        clear hb hr hK hC hf
        have hap : (⟨(two src ++ two dst).toArray⟩ : ByteArray) ++ ⟨(four seq).toArray⟩ = ⟨(two src ++ two dst ++ four seq).toArray⟩ := str_app _ _
        have hl1 : (two src ++ two dst).length = 4 := rfl
        have hl2 : (four seq).length = 4 := rfl
        unfold Run
        simp [execOp, Upon, go_sem, *]
        first
          | exact HK.out _ _ (.inl (Below.refl _ _)) rfl
          | exact HK.out _ _ (.inl (Below.refl _ _)) (by show Value.string _ = Value.string _; congr 1)
      · intro ev w' hC hc hf hb hr K hK
        have e3 : ev (.tmp 3) = _ := hb 3 (by kernel_rfl)
        have HK := Lib.hid hK
        have HC := Lib.hid hC
        clear hb hr hK hC hf
        unfold Run
        simp [execOp, Upon, go_sem, *]
        exact HK.out _ _ (.inl (Below.refl _ _)) rfl
      · intro ev w' hC hc hf hb hr K hK
        have e53 := hr 13 _ rfl (by kernel_rfl)
        change ev (.tmp 53) = _ at e53
        have HK := Lib.hid hK
        have HC := Lib.hid hC
        clear hb hr hK hC hf
        have k3' := K3.out w' (HBW.out.trans (HC.out.belowF.mono HBW.out.size))
        unfold Run
        simp [execOp, Upon, go_sem, *]
        exact HK.out _ _ (.inl (Below.refl _ _)) rfl
      · intro ev w' hC hc hf hb hr K hK
        have e54 := hr 14 _ rfl (by kernel_rfl)
        change ev (.tmp 54) = _ at e54
        have HK := Lib.hid hK
        have HC := Lib.hid hC
        clear hb hr hK hC
        unfold Run
        simp [execOp, Upon, go_sem, *]
        refine (rfour_any ack _ HO4.out).mono ?_
        rintro e w3 ⟨rfl, hb⟩
        exact ⟨_, rfl, HK.out _ _ (.inl hb) rfl⟩
      · intro ev w' hC hc hf hb hr K hK
        have e52 := hr 12 _ rfl (by kernel_rfl)
        have e55 := hr 15 _ rfl (by kernel_rfl)
        change ev (.tmp 52) = _ at e52
        change ev (.tmp 55) = _ at e55
        have HK := Lib.hid hK
        have HC := Lib.hid hC
        clear hb hr hK hC hf
        have hap : (⟨(two src ++ two dst ++ four seq).toArray⟩ : ByteArray) ++ ⟨(four ack).toArray⟩ = ⟨(two src ++ two dst ++ four seq ++ four ack).toArray⟩ := str_app _ _
        have hl1 : (two src ++ two dst ++ four seq).length = 8 := rfl
        have hl2 : (four ack).length = 4 := rfl
        unfold Run
        simp [execOp, Upon, go_sem, *]
        first
          | exact HK.out _ _ (.inl (Below.refl _ _)) rfl
          | exact HK.out _ _ (.inl (Below.refl _ _)) (by show Value.string _ = Value.string _; congr 1)
      · intro ev w' hC hc hf hb hr K hK
        have e9 : ev (.tmp 9) = _ := hb 9 (by kernel_rfl)
        have HK := Lib.hid hK
        have HC := Lib.hid hC
        clear hb hr hK hC hf
        unfold Run
        simp [execOp, Upon, go_sem, *]
        exact HK.out _ _ (.inl (Below.refl _ _)) rfl
      · intro ev w' hC hc hf hb hr K hK
        have e3 : ev (.tmp 3) = _ := hb 3 (by kernel_rfl)
        have HK := Lib.hid hK
        have HC := Lib.hid hC
        clear hb hr hK hC hf
        unfold Run
        simp [execOp, Upon, go_sem, *]
        exact HK.out _ _ (.inl (Below.refl _ _)) rfl
      · intro ev w' hC hc hf hb hr K hK
        have e58 := hr 18 _ rfl (by kernel_rfl)
        change ev (.tmp 58) = _ at e58
        have HK := Lib.hid hK
        have HC := Lib.hid hC
        clear hb hr hK hC hf
        have k4' := K4.out w' (HBW.out.trans (HC.out.belowF.mono HBW.out.size))
        unfold Run
        simp [execOp, Upon, go_sem, *]
        exact HK.out _ _ (.inl (Below.refl _ _)) rfl
      · intro ev w' hC hc hf hb hr K hK
        have e57 := hr 17 _ rfl (by kernel_rfl)
        have e59 := hr 19 _ rfl (by kernel_rfl)
        change ev (.tmp 57) = _ at e57
        change ev (.tmp 59) = _ at e59
        have HK := Lib.hid hK
        have HC := Lib.hid hC
        clear hb hr hK hC hf
        unfold Run
        simp [execOp, Upon, go_sem, *]
        exact HK.out _ _ (.inl ((Below.refl _ _).alloc (Nat.le_refl _) _)) ⟨some ⟨w'.heap.size, 0, none⟩, 2, rfl, by rw [World.size_alloc]; exact (rd_new w' (cells [96, flags]) 5 (0, 0)).wide HC.out.size (Nat.le_refl _), (fun h => by cases h), Nat.le_refl _, (by unfold maxLen; simp)⟩
      · intro ev w' hC hc hf hb hr K hK
        have e60 := hr 20 _ rfl (by kernel_rfl)
        change (Fresh w2.heap.size [96, flags] : Pred) (ev (.tmp 60)) _ at e60
        have HK := Lib.hid hK
        have HC := Lib.hid hC
        clear hb hr hK hC hf
        obtain ⟨A60, c60, q60, r60, _⟩ := e60
        have kt := run_text (P := Try.prog) w' 24 9 5 c60 Try.underlying24 Try.underlying5 Try.underlying9 r60
        clear r60
        simp only [List.length_cons, List.length_nil, Nat.zero_add] at q60 kt
        unfold Run
        simp [execOp, Upon, go_sem, *]
        exact HK.out _ _ (.inl (Below.refl _ _)) rfl
      · intro ev w' hC hc hf hb hr K hK
        have e56 := hr 16 _ rfl (by kernel_rfl)
        have e61 := hr 21 _ rfl (by kernel_rfl)
        change ev (.tmp 56) = _ at e56
        change ev (.tmp 61) = _ at e61
        have HK := Lib.hid hK
        have HC := Lib.hid hC
        clear hb hr hK hC hf
        have hap : (⟨(two src ++ two dst ++ four seq ++ four ack).toArray⟩ : ByteArray) ++ ⟨([96, flags]).toArray⟩ = ⟨(two src ++ two dst ++ four seq ++ four ack ++ [96, flags]).toArray⟩ := str_app _ _
        have hl1 : (two src ++ two dst ++ four seq ++ four ack).length = 12 := rfl
        have hl2 : ([96, flags]).length = 2 := rfl
        unfold Run
        simp [execOp, Upon, go_sem, *]
        first
          | exact HK.out _ _ (.inl (Below.refl _ _)) rfl
          | exact HK.out _ _ (.inl (Below.refl _ _)) (by show Value.string _ = Value.string _; congr 1)
      · intro ev w' hC hc hf hb hr K hK
        have e3 : ev (.tmp 3) = _ := hb 3 (by kernel_rfl)
        have HK := Lib.hid hK
        have HC := Lib.hid hC
        clear hb hr hK hC hf
        unfold Run
        simp [execOp, Upon, go_sem, *]
        exact HK.out _ _ (.inl (Below.refl _ _)) rfl
      · intro ev w' hC hc hf hb hr K hK
        have e63 := hr 23 _ rfl (by kernel_rfl)
        change ev (.tmp 63) = _ at e63
        have HK := Lib.hid hK
        have HC := Lib.hid hC
        clear hb hr hK hC hf
        have k5' := K5.out w' (HBW.out.trans (HC.out.belowF.mono HBW.out.size))
        unfold Run
        simp [execOp, Upon, go_sem, *]
        exact HK.out _ _ (.inl (Below.refl _ _)) rfl
      · intro ev w' hC hc hf hb hr K hK
        have e64 := hr 24 _ rfl (by kernel_rfl)
        change ev (.tmp 64) = _ at e64
        have HK := Lib.hid hK
        have HC := Lib.hid hC
        clear hb hr hK hC hf
        have hw := HC5.out
        unfold Run
        simp [execOp, Upon, go_sem, *]
        exact HK.out _ _ (.inl (Below.refl _ _)) (by show Value.int _ _ = Value.int _ _; congr 1; first | done | exact HC5.out)
      · intro ev w' hC hc hf hb hr K hK
        have e65 := hr 25 _ rfl (by kernel_rfl)
        change ev (.tmp 65) = _ at e65
        have HK := Lib.hid hK
        have HC := Lib.hid hC
        clear hb hr hK hC
        unfold Run
        simp [execOp, Upon, go_sem, *]
        refine (refword_all wnd _ (by have := HO5.out; omega)).mono ?_
        rintro e w3 ⟨rfl, hb⟩
        exact ⟨_, rfl, HK.out _ _ (.inl hb) rfl⟩
      · intro ev w' hC hc hf hb hr K hK
        have e62 := hr 22 _ rfl (by kernel_rfl)
        have e66 := hr 26 _ rfl (by kernel_rfl)
        change ev (.tmp 62) = _ at e62
        change ev (.tmp 66) = _ at e66
        have HK := Lib.hid hK
        have HC := Lib.hid hC
        clear hb hr hK hC hf
        have hap : (⟨(two src ++ two dst ++ four seq ++ four ack ++ [96, flags]).toArray⟩ : ByteArray) ++ ⟨(two wnd).toArray⟩ = ⟨(two src ++ two dst ++ four seq ++ four ack ++ [96, flags] ++ two wnd).toArray⟩ := str_app _ _
        have hl1 : (two src ++ two dst ++ four seq ++ four ack ++ [96, flags]).length = 14 := rfl
        have hl2 : (two wnd).length = 2 := rfl
        unfold Run
        simp [execOp, Upon, go_sem, *]
        first
          | exact HK.out _ _ (.inl (Below.refl _ _)) rfl
          | exact HK.out _ _ (.inl (Below.refl _ _)) (by show Value.string _ = Value.string _; congr 1)
      · intro ev w' hC hc hf hb hr K hK
        have e67 := hr 27 _ rfl (by kernel_rfl)
        change ev (.tmp 67) = _ at e67
        have HK := Lib.hid hK
        have HC := Lib.hid hC
        clear hb hr hK hC hf
        unfold Run
        simp [execOp, Upon, go_sem, *]
        exact HK.out _ _ (.inl (Below.refl _ _)) rfl
    · exact rl_mono ⟨is_mono _, is_mono _, is_mono _, is_mono _, is_mono _, is_mono _, is_mono _, is_mono _, is_mono _, is_mono _, is_mono _, is_mono _, is_mono _, is_mono _, is_mono _, is_mono _, is_mono _, is_mono _, is_mono _, is_mono _, fresh_mono _ _, is_mono _, is_mono _, is_mono _, is_mono _, is_mono _, is_mono _, is_mono _, is_mono _, trivial⟩
    intro us wr hG hH
    obtain ⟨-, -, -, -, -, -, -, -, -, -, -, -, -, -, -, -, -, -, -, -, -, -, -, -, -, -, -, -, h28, -⟩ := hH
    simp only [fillM]
    change us 10 = _ at h28
    rw [h28]
    clear h28
    generalize us 40 = v40
    generalize us 41 = v41
    generalize us 42 = v42
    generalize us 43 = v43
    generalize us 44 = v44
    generalize us 45 = v45
    generalize us 46 = v46
    generalize us 47 = v47
    generalize us 48 = v48
    generalize us 49 = v49
    generalize us 50 = v50
    generalize us 51 = v51
    generalize us 52 = v52
    generalize us 53 = v53
    generalize us 54 = v54
    generalize us 55 = v55
    generalize us 56 = v56
    generalize us 57 = v57
    generalize us 58 = v58
    generalize us 59 = v59
    generalize us 60 = v60
    generalize us 61 = v61
    generalize us 62 = v62
    generalize us 63 = v63
    generalize us 64 = v64
    generalize us 65 = v65
    generalize us 66 = v66
    generalize us 67 = v67
    rw [← HFR2.out]
    have HBR : Hid (Below w.heap.size w wr) := HB2.out.trans (hG.belowF.mono HB2.out.size)
    have HBWr : Hid (Below w1.heap.size w1 wr) := HBW.out.trans (hG.belowF.mono HBW.out.size)
    have k7r := K7.out wr HBWr.out
    have hrr : Rd wr 0 wr.heap.size A (cells data) := (HRD.out.below HBWr.out (by have := HHI.out; have := HB1.out.size; omega)).wide (Nat.zero_le _) (by have := HHI.out; have := HBR.out.size; omega)
    have ht := run_text (P := Try.prog) wr 24 9 5 c Try.underlying24 Try.underlying5 Try.underlying9 hrr
    rw [HN.out] at ht
    have HGSr := Lib.hid ((HBWr.out.block (w.heap.size + 1) (by have := HW1.out; omega)).trans HGS.out)
    have HGDr := Lib.hid ((HBWr.out.block (w.heap.size + 2) (by have := HW1.out; omega)).trans HGD.out)
    have hdl : data.length ≤ 156 := by have := HN.out; omega
    have hbl : back.length = 6 + data.length := by rw [HBK.out, List.length_append, List.length_append, two_length, HOL.out]
    have hfl16 : front.length = 16 := HFL16.out
    have hback : (⟨#[0, 0]⟩ : ByteArray) ++ (⟨#[2, 4]⟩ ++ ⟨(two mss).toArray⟩) ++ ⟨data.toArray⟩ = ⟨back.toArray⟩ := by
      rw [HBK.out, HOPT.out]
      apply ByteArray.ext
      simp [two]
    have hms2 : (two mss).length = 2 := rfl
    have HBACK := Lib.hid hback
    clear hrr hG
    --STOP3
    go_upto_region 10 with (fail)
    --STOP4
    try rw [HBACK.out]
    clear ht hback hms2 k7r
    have hbl2 : back.length ≤ 200 := by omega
    have hmm : (front.length : Int) + 2 + (back.length : Int) = (m : Int) := by rw [HSZ.out]; have h1 := HOL.out; have h2 := HN.out; omega
    have hm200 : m ≤ 200 := by rw [HSZ.out]; have h1 := HOL.out; have h2 := HN.out; omega
    have HV2 : Hid ((18 : Int) + (back.length : Int) = (m : Int)) := by show _ = _; omega
    have hps0 := refpseudo_any s0 s1 s2 s3 d0 d1 d2 d3 6 m wr (by omega)
    rw [show (((6 : UInt8).toNat : Nat) : Int) = 6 from rfl] at hps0
    obtain ⟨ps, hps⟩ : ∃ ps, pseudoT [s0, s1, s2, s3] [d0, d1, d2, d3] m = ps := ⟨_, rfl⟩
    have hps2 : [s0, s1, s2, s3] ++ [d0, d1, d2, d3] ++ [0, 6] ++ two m = ps := hps
    rw [hps2] at hps0
    rw [hps] at HBA
    have hpl : ps.length = 12 := by rw [← hps]; rfl
    have HPS := Lib.hid hps0
    clear hps hps2 hps0 hbl HSZ
    --STOP5
    go_wp2_with (first | refine wpList_load_row rfl 28 _ rfl (w.heap.size + 1) rfl 28 #[.int .u8 (s0.toNat : Int), .int .u8 (s1.toNat : Int), .int .u8 (s2.toNat : Int), .int .u8 (s3.toNat : Int)] (0, 0) _ HGSr.out Try.underlying28 rfl (by kernel_rfl) ?_ | refine wpList_load_row rfl 28 _ rfl (w.heap.size + 2) rfl 28 #[.int .u8 (d0.toNat : Int), .int .u8 (d1.toNat : Int), .int .u8 (d2.toNat : Int), .int .u8 (d3.toNat : Int)] (0, 0) _ HGDr.out Try.underlying28 rfl (by kernel_rfl) ?_)
    try rw [HV2.out]
    --STOP6
    refine HPS.out.mono ?_
    rintro e w6 ⟨rfl, hb6⟩
    have HB6 := Lib.hid (HBR.out.trans (hb6.mono HBR.out.size))
    clear hb6
    have hcat : (⟨ps.toArray⟩ : ByteArray) ++ ⟨front.toArray⟩ ++ ⟨#[0, 0]⟩ ++ ⟨back.toArray⟩ = ⟨ba.toArray⟩ := by
      rw [HBA.out]
      apply ByteArray.ext
      simp [two]
    have hsum := refsum_any ba w6 (by rw [HBA.out]; simp [hpl, two_length]; omega)
    rw [← HSU.out] at hsum
    have HSUM := Lib.hid hsum
    have HCAT := Lib.hid hcat
    clear hsum hcat
    unfold txt
    --STOP7
    go_wp2_with fail
    try rw [HCAT.out]
    unfold txt at HSUM
    --STOP8
    refine HSUM.out.mono ?_
    rintro e w7 ⟨rfl, rfl⟩
    have hs2 : S < 65536 := by rw [HSU.out]; omega
    have hcs : IntKind.i64.wrap (S : Int) = (S : Int) := IntWalk.i64_in _ ⟨by omega, by omega⟩
    have HWD2 := Lib.hid (refword_all S w6 (by omega))
    have htl : (two S).length = 2 := rfl
    have hbs : (⟨front.toArray⟩ : ByteArray) ++ ⟨(two S).toArray⟩ ++ ⟨back.toArray⟩ = ⟨bs.toArray⟩ := by
      rw [HBY.out]
      apply ByteArray.ext
      simp
    have HBS := Lib.hid hbs
    clear hbs
    go_wp2_with fail
    refine HWD2.out.mono ?_
    rintro e w8 ⟨rfl, hb8⟩
    have HB8 := Lib.hid (HB6.out.trans (hb8.mono HB6.out.size))
    clear hb8
    unfold txt
    --STOP9
    go_wp2
    go_ret2
    exact ⟨by show Ending.returned (.tuple #[.string ((⟨front.toArray⟩ : ByteArray) ++ ⟨(two S).toArray⟩ ++ ⟨back.toArray⟩), .int .i64 0]) = _; rw [HBS.out], HB8.out⟩
end Go.Proofs.Ytjgdmkmfnkaoaaa
