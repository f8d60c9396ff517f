/-
  ether.Parse(b): ErrLong of more than 214 bytes, ErrCut of fewer than 14, else the frame of the bytes, its body in a row of the call's own. Every slice of bytes that can be read.
-/
import Derived.Test.YtjgdmkmfnkaoaaaEFr
import Derived.Test.YtjgdmkmfnkaoaaaSplit
import Derived.StillTailTactics
import Derived.Deep.DeepCutAuto
import Derived.Deep.MidRow
import Derived.Laws.ResultCell
namespace Go.Proofs.Ytjgdmkmfnkaoaaa.E
open Go.RowKit

set_option maxRecDepth 100000 in
set_option maxHeartbeats 1000000 in
theorem parse_long (A : Option Addr) (n c : Nat) (w : World) (hn : 214 < n) (hm : n ≤ 9223372036854775807) :
    Calls Try.prog 24 #[.slice A n c] w (ParsePost w (Fr.zero, 4)) := by
  have HB := Lib.hid ((Below.refl w.heap.size w).alloc (Nat.le_refl _) (.cells #[.int .u8 0, .int .u8 0, .int .u8 0, .int .u8 0, .int .u8 0, .int .u8 0, .int .u8 0, .int .u8 0, .int .u8 0, .int .u8 0, .int .u8 0, .int .u8 0, .int .u16 0, .slice none 0 0] 67))
  have HG := Lib.hid (heap_alloc_new w (.cells #[.int .u8 0, .int .u8 0, .int .u8 0, .int .u8 0, .int .u8 0, .int .u8 0, .int .u8 0, .int .u8 0, .int .u8 0, .int .u8 0, .int .u8 0, .int .u8 0, .int .u16 0, .slice none 0 0] 67))
  go_enter Try.func24, Try.ntmps24
  go_wp2
  refine ret_row (g := w.heap.size) (cs := #[.int .u8 0, .int .u8 0, .int .u8 0, .int .u8 0, .int .u8 0, .int .u8 0, .int .u8 0, .int .u8 0, .int .u8 0, .int .u8 0, .int .u8 0, .int .u8 0, .int .u16 0, .slice none 0 0]) rfl rfl (load_fr HG.out rfl) rfl ?_
  exact ⟨_, rfl, zero_frV _ _ _, HB.out⟩

theorem split_cut (l : List UInt8) (h : l.length < 14) : splitS l [6, 6, 2] = ([], 6) := by
  unfold splitS
  simp only [splitGo]
  rw [if_neg (by omega)]
  by_cases h1 : (l.length : Int) < 6
  · rw [if_pos h1]
  · rw [if_neg h1, if_neg (by omega)]
    by_cases h2 : ((l.drop (6 : Int).toNat).length : Int) < 6
    · rw [if_pos h2]
    · rw [if_neg h2, if_neg (by omega), if_pos]
      simp only [List.length_drop] at h2 ⊢
      omega
theorem split_fits (x0 x1 x2 x3 x4 x5 y0 y1 y2 y3 y4 y5 z0 z1 : UInt8) (b : List UInt8) :
    splitS (x0 :: x1 :: x2 :: x3 :: x4 :: x5 :: y0 :: y1 :: y2 :: y3 :: y4 :: y5 :: z0 :: z1 :: b) [6, 6, 2] = ([[x0, x1, x2, x3, x4, x5], [y0, y1, y2, y3, y4, y5], [z0, z1], b], 0) := by
  unfold splitS
  simp only [splitGo, List.length_cons]
  rw [if_neg (by omega), if_neg (by omega), if_neg (by omega), if_neg (by simp; omega), if_neg (by omega), if_neg (by simp; omega)]
  simp

/-- Split at a frame's sizes, the literal of the sizes in the block that was made last -/
theorem split_three (A : Option Addr) (l : List UInt8) (c lo hi : Nat) (w : World) (h : Rd w lo hi A (cells l)) (hhi : hi ≤ w.heap.size) (hl : l.length ≤ 1000000000) (hc : l.length ≤ c) (hm : c ≤ maxLen) :
    Calls Try.prog 50 #[.slice A l.length c, .slice (some ⟨w.heap.size, 0, none⟩) 3 3] (w.alloc (.cells #[.int .i64 6, .int .i64 6, .int .i64 2] 3)) (SplitPost (w.alloc (.cells #[.int .i64 6, .int .i64 6, .int .i64 2] 3)) (splitS l [6, 6, 2])) := by
  refine split_any A (some ⟨w.heap.size, 0, none⟩) l [6, 6, 2] c 3 0 (w.heap.size + 1) _ ((h.alloc hhi _).wide (Nat.zero_le _) (by omega)) ((rd_new w [.int .i64 6, .int .i64 6, .int .i64 2] 3 (0, 0)).wide (Nat.zero_le _) (Nat.le_refl _)) (by simp) hl (by simp) hc hm

set_option maxRecDepth 100000 in
set_option maxHeartbeats 1000000 in
theorem parse_cut (A : Option Addr) (l : List UInt8) (c lo hi : Nat) (w : World) (h : Rd w lo hi A (cells l)) (hhi : hi ≤ w.heap.size) (hl : l.length < 14) (hc : l.length ≤ c) (hm : c ≤ maxLen) :
    Calls Try.prog 24 #[.slice A l.length c] w (ParsePost w (Fr.zero, 6)) := by
  have HB := Lib.hid ((Below.refl w.heap.size w).alloc (Nat.le_refl _) (.cells #[.int .u8 0, .int .u8 0, .int .u8 0, .int .u8 0, .int .u8 0, .int .u8 0, .int .u8 0, .int .u8 0, .int .u8 0, .int .u8 0, .int .u8 0, .int .u8 0, .int .u16 0, .slice none 0 0] 67))
  have HG := Lib.hid (heap_alloc_new w (.cells #[.int .u8 0, .int .u8 0, .int .u8 0, .int .u8 0, .int .u8 0, .int .u8 0, .int .u8 0, .int .u8 0, .int .u8 0, .int .u8 0, .int .u8 0, .int .u8 0, .int .u16 0, .slice none 0 0] 67))
  have HZ : Hid ((w.alloc (.cells #[.int .u8 0, .int .u8 0, .int .u8 0, .int .u8 0, .int .u8 0, .int .u8 0, .int .u8 0, .int .u8 0, .int .u8 0, .int .u8 0, .int .u8 0, .int .u8 0, .int .u16 0, .slice none 0 0] 67)).heap.size = w.heap.size + 1) := by show _ = _; simp
  have hsp := split_three A l c lo hi (w.alloc (.cells #[.int .u8 0, .int .u8 0, .int .u8 0, .int .u8 0, .int .u8 0, .int .u8 0, .int .u8 0, .int .u8 0, .int .u8 0, .int .u8 0, .int .u8 0, .int .u8 0, .int .u16 0, .slice none 0 0] 67)) (h.alloc hhi _) (by rw [HZ.out]; omega) (by omega) hc hm
  rw [split_cut l hl] at hsp
  have HSP := Lib.hid hsp
  obtain ⟨n, hn⟩ : ∃ n, l.length = n := ⟨_, rfl⟩
  rw [hn] at HSP hl ⊢
  clear hsp h hhi hc hm hn
  go_enter Try.func24, Try.ntmps24
  go_wp2_with fail
  rw [show w.heap.size + 1 = (w.alloc (.cells #[.int .u8 0, .int .u8 0, .int .u8 0, .int .u8 0, .int .u8 0, .int .u8 0, .int .u8 0, .int .u8 0, .int .u8 0, .int .u8 0, .int .u8 0, .int .u8 0, .int .u16 0, .slice none 0 0] 67)).heap.size from HZ.out.symm]
  refine HSP.out.mono ?_
  rintro e w1 ⟨A1, c1, vs, rfl, _, _, hb1⟩
  have HB1 : Hid (Below w.heap.size w w1) := (HB.out.alloc HB.out.size _).trans (hb1.mono (by simp; omega))
  have HG1 : Hid (w1.heap[w.heap.size]? = some (.cells #[.int .u8 0, .int .u8 0, .int .u8 0, .int .u8 0, .int .u8 0, .int .u8 0, .int .u8 0, .int .u8 0, .int .u8 0, .int .u8 0, .int .u8 0, .int .u8 0, .int .u16 0, .slice none 0 0] 67)) := (hb1.block _ (by simp; omega)).trans (old_alloc HG.out _)
  clear hb1 HB HG HZ HSP
  go_wp2_with (refine wpList_store_row rfl 67 _ _ rfl w.heap.size #[.int .u8 0, .int .u8 0, .int .u8 0, .int .u8 0, .int .u8 0, .int .u8 0, .int .u8 0, .int .u8 0, .int .u8 0, .int .u8 0, .int .u8 0, .int .u8 0, .int .u16 0, .slice none 0 0] rfl rfl _ _ HG1.out (by kernel_rfl) rfl (by kernel_rfl) ?_)
  (try simp only [Exit.inBlock, Exit.then])
  refine ret_row (g := w.heap.size) (cs := #[.int .u8 0, .int .u8 0, .int .u8 0, .int .u8 0, .int .u8 0, .int .u8 0, .int .u8 0, .int .u8 0, .int .u8 0, .int .u8 0, .int .u8 0, .int .u8 0, .int .u16 0, .slice none 0 0]) rfl rfl (load_fr (setRow_heap w1 _ _ _ _ _ HG1.out) rfl) rfl ?_
  exact ⟨_, rfl, zero_frV _ _ _, below_setRow HB1.out (Nat.le_refl _) _⟩

/-- a part that is not empty: its row's block, and its cells -/
theorem part_at {w : World} {B i : Nat} {vs : List Value} {ps : List (List UInt8)} {p : List UInt8} (hp : Parts w B vs ps) (hi : ps[i]? = some p) (hne : 0 < p.length) :
    ∃ g c, vs[i]? = some (.slice (some ⟨g, 0, none⟩) p.length c) ∧ B ≤ g ∧ g < w.heap.size ∧ (∀ k u, (cells p)[k]? = some u → w.cell? ⟨g, k, none⟩ = some u) ∧ Rd w B w.heap.size (some ⟨g, 0, none⟩) (cells p) := by
  obtain ⟨A, c, hv, hown⟩ := hp.2 i p hi
  obtain ⟨g, rfl, hB, hlt, _⟩ := own_at hown (j := 0) (cells_get p 0 hne)
  refine ⟨g, c, hv, hB, hlt, fun k u hu => ?_, Rd.own hown⟩
  obtain ⟨g', e, _, _, hc⟩ := own_at hown hu
  cases e
  exact hc

/-- a slice as an array: its head -/
theorem run_array {P : Program} (t e : TypeId) (n len : Nat) (A : Option Addr) (c : Nat) (w : World) (ht : P.underlying t = some (.array n e)) (h : n ≤ len) : (Instr.arrayAt t (.slice A len c)).run P w = .ok (.pointer A) w := by
  have h' : ¬ len < n := by omega
  simp [Instr.arrayAt, run_underlying ht, h']
theorem arr_mac (A : Option Addr) (c : Nat) (w : World) : (Instr.arrayAt 65 (.slice A 6 c)).run Try.prog w = .ok (.pointer A) w := run_array _ _ 6 6 A c w Try.underlying65 (Nat.le_refl _)
/-- nothing owned has no room -/
theorem own_nil {w : World} {base : Nat} {e : TypeId} {A : Option Addr} {n c : Nat} {xs : List Value} (h : w.ownsRow base e 1 (.slice A n c) n xs) : A = none → c = 0 := by
  rintro rfl
  rcases h.2 with ⟨he, _⟩ | ⟨g, cap, cur, he, _⟩
  · injection he
  · cases he
theorem get_two (g c : Nat) (z0 z1 : UInt8) (lo hi : Nat) (w : World) (h : Rd w lo hi (some ⟨g, 0, none⟩) (cells [z0, z1])) :
    Calls Try.prog 51 #[.slice (some ⟨g, 0, none⟩) 2 c] w fun e w' => e = .returned (.tuple #[.int .u64 (getV [z0, z1]), .int .i64 0]) ∧ w = w' :=
  get_any (some ⟨g, 0, none⟩) [z0, z1] c lo hi w h (by unfold maxLen; simp)

set_option maxRecDepth 100000 in
set_option maxHeartbeats 400000 in
theorem parse_fits (A : Option Addr) (x0 x1 x2 x3 x4 x5 y0 y1 y2 y3 y4 y5 z0 z1 : UInt8) (b : List UInt8) (c lo hi : Nat) (w : World) (h : Rd w lo hi A (cells (x0 :: x1 :: x2 :: x3 :: x4 :: x5 :: y0 :: y1 :: y2 :: y3 :: y4 :: y5 :: z0 :: z1 :: b))) (hhi : hi ≤ w.heap.size) (hb : b.length ≤ 200) (hc : 14 + b.length ≤ c) (hm : c ≤ maxLen) :
    Calls Try.prog 24 #[.slice A (14 + b.length) c] w (ParsePost w (⟨[x0, x1, x2, x3, x4, x5], [y0, y1, y2, y3, y4, y5], getV [z0, z1], b⟩, 0)) := by
  have HB := Lib.hid ((Below.refl w.heap.size w).alloc (Nat.le_refl _) (.cells #[.int .u8 0, .int .u8 0, .int .u8 0, .int .u8 0, .int .u8 0, .int .u8 0, .int .u8 0, .int .u8 0, .int .u8 0, .int .u8 0, .int .u8 0, .int .u8 0, .int .u16 0, .slice none 0 0] 67))
  have HG := Lib.hid (heap_alloc_new w (.cells #[.int .u8 0, .int .u8 0, .int .u8 0, .int .u8 0, .int .u8 0, .int .u8 0, .int .u8 0, .int .u8 0, .int .u8 0, .int .u8 0, .int .u8 0, .int .u8 0, .int .u16 0, .slice none 0 0] 67))
  have HZ : Hid ((w.alloc (.cells #[.int .u8 0, .int .u8 0, .int .u8 0, .int .u8 0, .int .u8 0, .int .u8 0, .int .u8 0, .int .u8 0, .int .u8 0, .int .u8 0, .int .u8 0, .int .u8 0, .int .u16 0, .slice none 0 0] 67)).heap.size = w.heap.size + 1) := by show _ = _; simp
  obtain ⟨n, hn⟩ : ∃ n, b.length = n := ⟨_, rfl⟩
  have hlen : (x0 :: x1 :: x2 :: x3 :: x4 :: x5 :: y0 :: y1 :: y2 :: y3 :: y4 :: y5 :: z0 :: z1 :: b).length = 14 + n := by simp [hn]; omega
  have hsp := split_three A _ c lo hi (w.alloc (.cells #[.int .u8 0, .int .u8 0, .int .u8 0, .int .u8 0, .int .u8 0, .int .u8 0, .int .u8 0, .int .u8 0, .int .u8 0, .int .u8 0, .int .u8 0, .int .u8 0, .int .u16 0, .slice none 0 0] 67)) (h.alloc hhi _) (by rw [HZ.out]; omega) (by rw [hlen]; omega) (by rw [hlen]; omega) hm
  rw [split_fits, hlen, HZ.out] at hsp
  have HSP := Lib.hid hsp
  have hgv := getV_lt [z0, z1]
  rw [show [z0, z1].length = 2 from rfl, show 2 ^ (8 * 2) = 65536 from rfl] at hgv
  have HV := Lib.hid hgv
  clear hgv
  rw [hn] at hb ⊢
  have HN := Lib.hid hn
  obtain ⟨L, hL⟩ : ∃ L, 14 + n = L := ⟨_, rfl⟩
  rw [hL] at HSP ⊢
  have hL2 : L ≤ 214 := by omega
  clear hsp h hhi hc hm hn hlen hb hL
  go_enter Try.func24, Try.ntmps24
  go_wp2_with fail
  refine HSP.out.mono ?_
  rintro e w1 ⟨A1, c1, vs, rfl, hown1, hpt, hb1⟩
  have HB1 : Hid (Below w.heap.size w w1) := (HB.out.alloc HB.out.size _).trans (hb1.mono (by simp; omega))
  have HG1 : Hid (w1.heap[w.heap.size]? = some (.cells #[.int .u8 0, .int .u8 0, .int .u8 0, .int .u8 0, .int .u8 0, .int .u8 0, .int .u8 0, .int .u8 0, .int .u8 0, .int .u8 0, .int .u8 0, .int .u8 0, .int .u16 0, .slice none 0 0] 67)) := (hb1.block _ (by simp; omega)).trans (old_alloc HG.out _)
  obtain ⟨g0, c0, hv0, _, _, hx, _⟩ := part_at hpt (i := 0) rfl (by simp)
  obtain ⟨g1, d1, hv1, _, _, hy, _⟩ := part_at hpt (i := 1) rfl (by simp)
  obtain ⟨g2, c2, hv2, _, _, _, hz⟩ := part_at hpt (i := 2) rfl (by simp)
  obtain ⟨A3, c3, hv3, hown3⟩ := hpt.2 3 b rfl
  obtain ⟨gg, hA1, _, hgg, q0⟩ := own_at hown1 hv0
  obtain ⟨_, e1, _, _, q1⟩ := own_at hown1 hv1
  obtain ⟨_, e2, _, _, q2⟩ := own_at hown1 hv2
  obtain ⟨_, e3, _, _, q3⟩ := own_at hown1 hv3
  subst hA1
  cases e1
  cases e2
  cases e3
  rw [HN.out] at q3
  have u0 := hx 0 _ rfl
  have u1 := hx 1 _ rfl
  have u2 := hx 2 _ rfl
  have u3 := hx 3 _ rfl
  have u4 := hx 4 _ rfl
  have u5 := hx 5 _ rfl
  have t0 := hy 0 _ rfl
  have t1 := hy 1 _ rfl
  have t2 := hy 2 _ rfl
  have t3 := hy 3 _ rfl
  have t4 := hy 4 _ rfl
  have t5 := hy 5 _ rfl
  have HO3 := Lib.hid hown3
  have HZ2 := Lib.hid hz
  clear hb1 HB HG HZ HSP hown1 hpt hv0 hv1 hv2 hv3 hx hy hz hown3
  go_wp2_with fail
  refine (get_two g2 c2 z0 z1 _ _ _ HZ2.out).mono ?_
  rintro e w2 ⟨rfl, rfl⟩
  obtain ⟨tn, htn⟩ : ∃ tn, getV [z0, z1] = tn := ⟨_, rfl⟩
  rw [htn] at HV ⊢
  go_wp2_with fail
  have ha := arr_mac
  go_still_tail 16, (by kernel_rfl)
  change wpList _ _ _ _ _ w1.drew
  have HB2 : Hid (Below w.heap.size w w1.drew) := HB1.out.drew
  have HG2 : Hid (w1.drew.heap[w.heap.size]? = _) := HG1.out
  have HO4 : Hid (Rd w1.drew (w.heap.size + 1) w1.drew.heap.size A3 (cells b)) := ((Rd.own HO3.out).drew).wide (by simp) (Nat.le_refl _)
  have HCP := Lib.hid (own_cap HO3.out)
  have HAN : Hid (A3 = none → c3 = 0) := own_nil HO3.out
  clear u0 u1 u2 u3 u4 u5 t0 t1 t2 t3 t4 t5 q0 q1 q2 q3 ha HB1 HG1 HO3 HZ2
  generalize w1.drew = w2 at HB2 HG2 HO4 ⊢
  go_wp2_with (refine wpList_store_row rfl 67 _ _ rfl w.heap.size #[.int .u8 (x0.toNat : Int), .int .u8 (x1.toNat : Int), .int .u8 (x2.toNat : Int), .int .u8 (x3.toNat : Int), .int .u8 (x4.toNat : Int), .int .u8 (x5.toNat : Int), .int .u8 (y0.toNat : Int), .int .u8 (y1.toNat : Int), .int .u8 (y2.toNat : Int), .int .u8 (y3.toNat : Int), .int .u8 (y4.toNat : Int), .int .u8 (y5.toNat : Int), .int .u16 (IntKind.u16.wrap (tn : Int)), .slice A3 n c3] rfl rfl _ _ HG2.out (by kernel_rfl) rfl (by kernel_rfl) ?_)
  (try simp only [Exit.inBlock, Exit.then])
  refine ret_row (g := w.heap.size) (cs := #[.int .u8 (x0.toNat : Int), .int .u8 (x1.toNat : Int), .int .u8 (x2.toNat : Int), .int .u8 (x3.toNat : Int), .int .u8 (x4.toNat : Int), .int .u8 (x5.toNat : Int), .int .u8 (y0.toNat : Int), .int .u8 (y1.toNat : Int), .int .u8 (y2.toNat : Int), .int .u8 (y3.toNat : Int), .int .u8 (y4.toNat : Int), .int .u8 (y5.toNat : Int), .int .u16 (IntKind.u16.wrap (tn : Int)), .slice A3 n c3]) rfl rfl (load_fr (setRow_heap w2 _ _ _ _ _ HG2.out) rfl) rfl ?_
  have HB3 : Below w.heap.size w (w2.setRow w.heap.size #[.int .u8 (x0.toNat : Int), .int .u8 (x1.toNat : Int), .int .u8 (x2.toNat : Int), .int .u8 (x3.toNat : Int), .int .u8 (x4.toNat : Int), .int .u8 (x5.toNat : Int), .int .u8 (y0.toNat : Int), .int .u8 (y1.toNat : Int), .int .u8 (y2.toNat : Int), .int .u8 (y3.toNat : Int), .int .u8 (y4.toNat : Int), .int .u8 (y5.toNat : Int), .int .u16 (IntKind.u16.wrap (tn : Int)), .slice A3 n c3]) := below_setRow HB2.out (Nat.le_refl _) _
  have e16 : IntKind.u16.wrap (tn : Int) = tn := IntWalk.u16_in _ ⟨by omega, by have := HV.out; omega⟩
  refine ⟨_, rfl, ⟨A3, c3, ?_, ⟨rfl, rfl, ?_⟩, ?_, ?_, HCP.out.2, HAN.out⟩, HB3⟩
  · rw [e16]
    simp only [frC]
    rw [HN.out, htn]
    rfl
  · simp only
    rw [htn]
    exact HV.out
  · have := (HO4.out.keep (w' := w2.setRow w.heap.size #[.int .u8 (x0.toNat : Int), .int .u8 (x1.toNat : Int), .int .u8 (x2.toNat : Int), .int .u8 (x3.toNat : Int), .int .u8 (x4.toNat : Int), .int .u8 (x5.toNat : Int), .int .u8 (y0.toNat : Int), .int .u8 (y1.toNat : Int), .int .u8 (y2.toNat : Int), .int .u8 (y3.toNat : Int), .int .u8 (y4.toNat : Int), .int .u8 (y5.toNat : Int), .int .u16 (IntKind.u16.wrap (tn : Int)), .slice A3 n c3]) fun p h1 h2 => World.cell?_of_block (setRow_other w2 _ _ _ (by omega)))
    exact this.wide (by omega) (by simp)
  · simpa using HCP.out.1

/-- ether.Parse, all of it -/
theorem parse_any (A : Option Addr) (l : List UInt8) (c lo hi : Nat) (w : World) (h : Rd w lo hi A (cells l)) (hhi : hi ≤ w.heap.size) (hc : l.length ≤ c) (hm : c ≤ maxLen) :
    Calls Try.prog 24 #[.slice A l.length c] w (ParsePost w (parseS l)) := by
  by_cases h1 : 214 < l.length
  · have e : parseS l = (Fr.zero, 4) := by unfold parseS; rw [if_pos h1]
    rw [e]
    exact parse_long A l.length c w h1 (by unfold maxLen at hm; omega)
  · by_cases h2 : l.length < 14
    · have e : parseS l = (Fr.zero, 6) := by unfold parseS; rw [if_neg h1, if_pos h2]
      rw [e]
      exact parse_cut A l c lo hi w h hhi h2 hc hm
    · have e : parseS l = (frOf l, 0) := by unfold parseS; rw [if_neg h1, if_neg h2]
      rw [e]
      obtain ⟨x0, x1, x2, x3, x4, x5, y0, y1, y2, y3, y4, y5, z0, z1, b, rfl⟩ := fourteen l (by omega)
      have hl : (x0 :: x1 :: x2 :: x3 :: x4 :: x5 :: y0 :: y1 :: y2 :: y3 :: y4 :: y5 :: z0 :: z1 :: b).length = 14 + b.length := by simp; omega
      rw [hl] at hc h1 h2 ⊢
      exact parse_fits A x0 x1 x2 x3 x4 x5 y0 y1 y2 y3 y4 y5 z0 z1 b c lo hi w h hhi (by omega) hc hm
end Go.Proofs.Ytjgdmkmfnkaoaaa.E
