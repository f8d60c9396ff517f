/-
  ether.ParseArp(b): ErrCut of fewer than 28 bytes, ErrForm where the first seven are others or Op is neither 1 nor 2, else the Arp of the first 28. Every slice of bytes that can be read.
-/
import Derived.Test.YtooepllgefndnaaArp
import Derived.Test.YtooepllgefndnaaBuildArp
import Derived.Test.YtooepllgefndnaaParse
import Derived.Test.YtooepllgefndnaaSame
namespace Go.Proofs.Ytooepllgefndnaa
open Go.RowKit

def partsN (l : List UInt8) : List Nat → List (List UInt8)
  | [] => [l]
  | n :: r => l.take n :: partsN (l.drop n) r
theorem splitGo_nat (ns : List Nat) : ∀ (acc : List (List UInt8)) (l : List UInt8), splitGo acc l (ns.map fun n : Nat => (n : Int)) = if ns.sum ≤ l.length then (acc ++ partsN l ns, 0) else ([], 6) := by
  induction ns with
  | nil => intro acc l; simp [splitGo, partsN]
  | cons n r ih =>
    intro acc l
    have hs : (n :: r).sum = n + r.sum := List.sum_cons
    simp only [List.map_cons, splitGo]
    rw [if_neg (by omega)]
    by_cases h : (l.length : Int) < n
    · rw [if_pos h, if_neg (by omega)]
    · rw [if_neg h, ih]
      simp only [Int.toNat_natCast, List.length_drop, partsN]
      by_cases h2 : n + r.sum ≤ l.length
      · rw [if_pos (by omega), if_pos (by omega)]
        simp
      · rw [if_neg (by omega), if_neg (by omega)]
theorem splitA (l : List UInt8) : splitS l [7, 1, 6, 4, 6, 4] = if 28 ≤ l.length then (partsN l [7, 1, 6, 4, 6, 4], 0) else ([], 6) := splitGo_nat [7, 1, 6, 4, 6, 4] [] l

theorem split_six (A : Option Addr) (l : List UInt8) (c lo hi : Nat) (w : World) (h : Rd w lo hi A (cells l)) (hhi : hi ≤ w.heap.size) (hl : l.length ≤ 1000000000) (hc : l.length ≤ c) (hm : c ≤ maxLen) :
    Calls Try.prog 22 #[.slice A l.length c, .slice (some ⟨w.heap.size, 0, none⟩) 6 6] (w.alloc (.cells #[.int .i64 7, .int .i64 1, .int .i64 6, .int .i64 4, .int .i64 6, .int .i64 4] 3)) (SplitPost (w.alloc (.cells #[.int .i64 7, .int .i64 1, .int .i64 6, .int .i64 4, .int .i64 6, .int .i64 4] 3)) (splitS l [7, 1, 6, 4, 6, 4])) := by
  refine split_any A (some ⟨w.heap.size, 0, none⟩) l [7, 1, 6, 4, 6, 4] c 6 0 (w.heap.size + 1) _ ((h.alloc hhi _).wide (Nat.zero_le _) (by omega)) ((rd_new w [.int .i64 7, .int .i64 1, .int .i64 6, .int .i64 4, .int .i64 6, .int .i64 4] 3 (0, 0)).wide (Nat.zero_le _) (Nat.le_refl _)) (by simp) hl (by simp) hc hm

theorem zero_arV : ArV #[.int .i64 0, .int .u8 0, .int .u8 0, .int .u8 0, .int .u8 0, .int .u8 0, .int .u8 0, .int .u8 0, .int .u8 0, .int .u8 0, .int .u8 0, .int .u8 0, .int .u8 0, .int .u8 0, .int .u8 0, .int .u8 0, .int .u8 0, .int .u8 0, .int .u8 0, .int .u8 0, .int .u8 0] Ar.zero := ⟨rfl, zero_ok⟩

set_option maxRecDepth 100000 in
set_option maxHeartbeats 1000000 in
theorem parsearp_cut (A : Option Addr) (l : List UInt8) (c lo hi : Nat) (w : World) (h : Rd w lo hi A (cells l)) (hhi : hi ≤ w.heap.size) (hl : l.length < 28) (hc : l.length ≤ c) (hm : c ≤ maxLen) :
    Calls Try.prog 17 #[.slice A l.length c] w (ArpPost w (Ar.zero, 6)) := by
  have HB := Lib.hid ((Below.refl w.heap.size w).alloc (Nat.le_refl _) (.cells #[.int .i64 0, .int .u8 0, .int .u8 0, .int .u8 0, .int .u8 0, .int .u8 0, .int .u8 0, .int .u8 0, .int .u8 0, .int .u8 0, .int .u8 0, .int .u8 0, .int .u8 0, .int .u8 0, .int .u8 0, .int .u8 0, .int .u8 0, .int .u8 0, .int .u8 0, .int .u8 0, .int .u8 0] 44))
  have HG := Lib.hid (heap_alloc_new w (.cells #[.int .i64 0, .int .u8 0, .int .u8 0, .int .u8 0, .int .u8 0, .int .u8 0, .int .u8 0, .int .u8 0, .int .u8 0, .int .u8 0, .int .u8 0, .int .u8 0, .int .u8 0, .int .u8 0, .int .u8 0, .int .u8 0, .int .u8 0, .int .u8 0, .int .u8 0, .int .u8 0, .int .u8 0] 44))
  have HZ : Hid ((w.alloc (.cells #[.int .i64 0, .int .u8 0, .int .u8 0, .int .u8 0, .int .u8 0, .int .u8 0, .int .u8 0, .int .u8 0, .int .u8 0, .int .u8 0, .int .u8 0, .int .u8 0, .int .u8 0, .int .u8 0, .int .u8 0, .int .u8 0, .int .u8 0, .int .u8 0, .int .u8 0, .int .u8 0, .int .u8 0] 44)).heap.size = w.heap.size + 1) := by show _ = _; simp
  have hsp := split_six A l c lo hi (w.alloc (.cells #[.int .i64 0, .int .u8 0, .int .u8 0, .int .u8 0, .int .u8 0, .int .u8 0, .int .u8 0, .int .u8 0, .int .u8 0, .int .u8 0, .int .u8 0, .int .u8 0, .int .u8 0, .int .u8 0, .int .u8 0, .int .u8 0, .int .u8 0, .int .u8 0, .int .u8 0, .int .u8 0, .int .u8 0] 44)) (h.alloc hhi _) (by rw [HZ.out]; omega) (by omega) hc hm
  rw [splitA, if_neg (by omega), HZ.out] at hsp
  have HSP := Lib.hid hsp
  obtain ⟨n, hn⟩ : ∃ n, l.length = n := ⟨_, rfl⟩
  rw [hn] at HSP hl ⊢
  clear hsp h hhi hc hm hn
  go_enter Try.func17, Try.ntmps17
  go_wp2_with fail
  refine HSP.out.mono ?_
  rintro e w1 ⟨A1, c1, vs, rfl, _, _, hb1⟩
  have HB1 : Hid (Below w.heap.size w w1) := (HB.out.alloc HB.out.size _).trans (hb1.mono (by simp; omega))
  have HG1 : Hid (w1.heap[w.heap.size]? = some (.cells #[.int .i64 0, .int .u8 0, .int .u8 0, .int .u8 0, .int .u8 0, .int .u8 0, .int .u8 0, .int .u8 0, .int .u8 0, .int .u8 0, .int .u8 0, .int .u8 0, .int .u8 0, .int .u8 0, .int .u8 0, .int .u8 0, .int .u8 0, .int .u8 0, .int .u8 0, .int .u8 0, .int .u8 0] 44)) := (hb1.block _ (by simp; omega)).trans (old_alloc HG.out _)
  clear hb1 HB HG HZ HSP
  go_wp2_with (refine wpList_store_row rfl 44 _ _ rfl w.heap.size #[.int .i64 0, .int .u8 0, .int .u8 0, .int .u8 0, .int .u8 0, .int .u8 0, .int .u8 0, .int .u8 0, .int .u8 0, .int .u8 0, .int .u8 0, .int .u8 0, .int .u8 0, .int .u8 0, .int .u8 0, .int .u8 0, .int .u8 0, .int .u8 0, .int .u8 0, .int .u8 0, .int .u8 0] rfl rfl _ _ HG1.out (by kernel_rfl) rfl (by kernel_rfl) ?_)
  (try simp only [Exit.inBlock, Exit.then])
  refine ret_row (g := w.heap.size) (cs := #[.int .i64 0, .int .u8 0, .int .u8 0, .int .u8 0, .int .u8 0, .int .u8 0, .int .u8 0, .int .u8 0, .int .u8 0, .int .u8 0, .int .u8 0, .int .u8 0, .int .u8 0, .int .u8 0, .int .u8 0, .int .u8 0, .int .u8 0, .int .u8 0, .int .u8 0, .int .u8 0, .int .u8 0]) rfl rfl (load_ar (setRow_heap w1 _ _ _ _ _ HG1.out) rfl) rfl ?_
  exact ⟨_, rfl, zero_arV, below_setRow HB1.out (Nat.le_refl _) _⟩

theorem arr_ip (A : Option Addr) (c : Nat) (w : World) : (Instr.arrayAt 42 (.slice A 4 c)).run Try.prog w = .ok (.pointer A) w := run_array _ _ 4 4 A c w Try.underlying42 (Nat.le_refl _)

set_option maxRecDepth 100000 in
set_option maxHeartbeats 1000000 in
theorem parsearp_full (A : Option Addr) (kl : List UInt8) (o x0 x1 x2 x3 x4 x5 y0 y1 y2 y3 u0 u1 u2 u3 u4 u5 v0 v1 v2 v3 : UInt8) (b : List UInt8) (n c lo hi : Nat) (w : World) (hkl : kl.length = 7) (hn : 28 + b.length = n) (h : Rd w lo hi A (cells (kl ++ (o :: x0 :: x1 :: x2 :: x3 :: x4 :: x5 :: y0 :: y1 :: y2 :: y3 :: u0 :: u1 :: u2 :: u3 :: u4 :: u5 :: v0 :: v1 :: v2 :: v3 :: b)))) (hhi : hi ≤ w.heap.size) (hb : n ≤ 1000000000) (hc : n ≤ c) (hm : c ≤ maxLen) :
    Calls Try.prog 17 #[.slice A n c] w (ArpPost w (if kl = headB ∧ knownB (o.toNat : Int) = true then ((⟨(o.toNat : Int), [x0, x1, x2, x3, x4, x5], [y0, y1, y2, y3], [u0, u1, u2, u3, u4, u5], [v0, v1, v2, v3]⟩ : Ar), 0) else (Ar.zero, 7))) := by
  have HB := Lib.hid ((Below.refl w.heap.size w).alloc (Nat.le_refl _) (.cells #[.int .i64 0, .int .u8 0, .int .u8 0, .int .u8 0, .int .u8 0, .int .u8 0, .int .u8 0, .int .u8 0, .int .u8 0, .int .u8 0, .int .u8 0, .int .u8 0, .int .u8 0, .int .u8 0, .int .u8 0, .int .u8 0, .int .u8 0, .int .u8 0, .int .u8 0, .int .u8 0, .int .u8 0] 44))
  have HG := Lib.hid (heap_alloc_new w (.cells #[.int .i64 0, .int .u8 0, .int .u8 0, .int .u8 0, .int .u8 0, .int .u8 0, .int .u8 0, .int .u8 0, .int .u8 0, .int .u8 0, .int .u8 0, .int .u8 0, .int .u8 0, .int .u8 0, .int .u8 0, .int .u8 0, .int .u8 0, .int .u8 0, .int .u8 0, .int .u8 0, .int .u8 0] 44))
  have HZ : Hid ((w.alloc (.cells #[.int .i64 0, .int .u8 0, .int .u8 0, .int .u8 0, .int .u8 0, .int .u8 0, .int .u8 0, .int .u8 0, .int .u8 0, .int .u8 0, .int .u8 0, .int .u8 0, .int .u8 0, .int .u8 0, .int .u8 0, .int .u8 0, .int .u8 0, .int .u8 0, .int .u8 0, .int .u8 0, .int .u8 0] 44)).heap.size = w.heap.size + 1) := by show _ = _; simp
  have hlen : (kl ++ (o :: x0 :: x1 :: x2 :: x3 :: x4 :: x5 :: y0 :: y1 :: y2 :: y3 :: u0 :: u1 :: u2 :: u3 :: u4 :: u5 :: v0 :: v1 :: v2 :: v3 :: b)).length = n := by simp [hkl]; omega
  have hsp := split_six A _ c lo hi (w.alloc (.cells #[.int .i64 0, .int .u8 0, .int .u8 0, .int .u8 0, .int .u8 0, .int .u8 0, .int .u8 0, .int .u8 0, .int .u8 0, .int .u8 0, .int .u8 0, .int .u8 0, .int .u8 0, .int .u8 0, .int .u8 0, .int .u8 0, .int .u8 0, .int .u8 0, .int .u8 0, .int .u8 0, .int .u8 0] 44)) (h.alloc hhi _) (by rw [HZ.out]; omega) (by rw [hlen]; omega) (by rw [hlen]; omega) hm
  have hpt : partsN (kl ++ (o :: x0 :: x1 :: x2 :: x3 :: x4 :: x5 :: y0 :: y1 :: y2 :: y3 :: u0 :: u1 :: u2 :: u3 :: u4 :: u5 :: v0 :: v1 :: v2 :: v3 :: b)) [7, 1, 6, 4, 6, 4] = [kl, [o], [x0, x1, x2, x3, x4, x5], [y0, y1, y2, y3], [u0, u1, u2, u3, u4, u5], [v0, v1, v2, v3], b] := by
    simp only [partsN]
    rw [List.take_append_of_le_length (by omega), List.take_of_length_le (by omega), List.drop_append_of_le_length (by omega), List.drop_of_length_le (by omega)]
    simp
  rw [splitA, if_pos (by rw [hlen]; omega), hlen, hpt, HZ.out] at hsp
  have HSP := Lib.hid hsp
  have HKL := Lib.hid hkl
  clear hsp h hhi hc hm hn hlen hpt hkl
  generalize hR : (if kl = headB ∧ knownB (o.toNat : Int) = true then ((⟨(o.toNat : Int), [x0, x1, x2, x3, x4, x5], [y0, y1, y2, y3], [u0, u1, u2, u3, u4, u5], [v0, v1, v2, v3]⟩ : Ar), (0 : Int)) else (Ar.zero, 7)) = R
  have HR := Lib.hid hR
  clear hR
  go_enter Try.func17, Try.ntmps17
  go_wp2_with fail
  refine HSP.out.mono ?_
  rintro e w1 ⟨A1, c1, vs, rfl, hown1, hpt, hb1⟩
  have HB1 : Hid (Below w.heap.size w w1) := (HB.out.alloc HB.out.size _).trans (hb1.mono (by simp; omega))
  have HG1 : Hid (w1.heap[w.heap.size]? = some (.cells #[.int .i64 0, .int .u8 0, .int .u8 0, .int .u8 0, .int .u8 0, .int .u8 0, .int .u8 0, .int .u8 0, .int .u8 0, .int .u8 0, .int .u8 0, .int .u8 0, .int .u8 0, .int .u8 0, .int .u8 0, .int .u8 0, .int .u8 0, .int .u8 0, .int .u8 0, .int .u8 0, .int .u8 0] 44)) := (hb1.block _ (by simp; omega)).trans (old_alloc HG.out _)
  obtain ⟨g0, c0, hv0, _, _, _, hz0⟩ := part_at hpt (i := 0) rfl (by rw [HKL.out]; omega)
  obtain ⟨g1, d1, hv1, _, _, ho, _⟩ := part_at hpt (i := 1) rfl (by simp)
  obtain ⟨g2, d2, hv2, _, _, hx, _⟩ := part_at hpt (i := 2) rfl (by simp)
  obtain ⟨g3, d3, hv3, _, _, hy, _⟩ := part_at hpt (i := 3) rfl (by simp)
  obtain ⟨g4, d4, hv4, _, _, hu, _⟩ := part_at hpt (i := 4) rfl (by simp)
  obtain ⟨g5, d5, hv5, _, _, hvv, _⟩ := part_at hpt (i := 5) rfl (by simp)
  obtain ⟨gg, hA1, _, hgg, q0⟩ := own_at hown1 hv0
  obtain ⟨_, e1, _, _, q1⟩ := own_at hown1 hv1
  obtain ⟨_, e2, _, _, q2⟩ := own_at hown1 hv2
  obtain ⟨_, e3, _, _, q3⟩ := own_at hown1 hv3
  obtain ⟨_, e4, _, _, q4⟩ := own_at hown1 hv4
  obtain ⟨_, e5, _, _, q5⟩ := own_at hown1 hv5
  subst hA1
  cases e1
  cases e2
  cases e3
  cases e4
  cases e5
  rw [HKL.out] at q0
  have ht0 := run_text (P := Try.prog) w1 25 9 5 c0 Try.underlying25 Try.underlying5 Try.underlying9 hz0
  rw [HKL.out] at ht0
  have ho0 := ho 0 _ rfl
  have hw64 : wrap64 (o.toNat : Int) = (o.toNat : Int) := by
    have := o.toNat_lt
    unfold wrap64
    omega
  have cx0 := hx 0 _ rfl
  have cx1 := hx 1 _ rfl
  have cx2 := hx 2 _ rfl
  have cx3 := hx 3 _ rfl
  have cx4 := hx 4 _ rfl
  have cx5 := hx 5 _ rfl
  have cy0 := hy 0 _ rfl
  have cy1 := hy 1 _ rfl
  have cy2 := hy 2 _ rfl
  have cy3 := hy 3 _ rfl
  have cu0 := hu 0 _ rfl
  have cu1 := hu 1 _ rfl
  have cu2 := hu 2 _ rfl
  have cu3 := hu 3 _ rfl
  have cu4 := hu 4 _ rfl
  have cu5 := hu 5 _ rfl
  have cv0 := hvv 0 _ rfl
  have cv1 := hvv 1 _ rfl
  have cv2 := hvv 2 _ rfl
  have cv3 := hvv 3 _ rfl
  clear hb1 HB HG HZ HSP hown1 hpt hv0 hv1 hv2 hv3 hv4 hv5 ho hx hy hu hvv hz0
  by_cases hh : kl = headB
  · by_cases hk : knownB (o.toNat : Int) = true
    · have HRR := Lib.hid (HR.out.symm.trans (if_pos ⟨hh, hk⟩))
      have HK := Lib.hid hk
      unfold headB at hh
      subst hh
      clear HR hk
      go_wp2_with fail
      refine (known_any _ _).mono ?_
      rintro e w2 ⟨rfl, rfl⟩
      rw [HK.out]
      go_wp2_with fail
      have ha := arr_mac
      have ha2 := arr_ip
      go_still_tail 22, (by kernel_rfl)
      change wpList _ _ _ _ _ w1.drew
      have HB2 : Hid (Below w.heap.size w w1.drew) := HB1.out.drew
      have HG2 : Hid (w1.drew.heap[w.heap.size]? = _) := HG1.out
      clear cx0 cx1 cx2 cx3 cx4 cx5 cy0 cy1 cy2 cy3 cu0 cu1 cu2 cu3 cu4 cu5 cv0 cv1 cv2 cv3 q0 q1 q2 q3 q4 q5 ha ha2 ht0 ho0 HB1 HG1
      generalize w1.drew = w2 at HB2 HG2 ⊢
      go_wp2_with (refine wpList_store_row rfl 44 _ _ rfl w.heap.size #[.int .i64 (o.toNat : Int), .int .u8 (x0.toNat : Int), .int .u8 (x1.toNat : Int), .int .u8 (x2.toNat : Int), .int .u8 (x3.toNat : Int), .int .u8 (x4.toNat : Int), .int .u8 (x5.toNat : Int), .int .u8 (y0.toNat : Int), .int .u8 (y1.toNat : Int), .int .u8 (y2.toNat : Int), .int .u8 (y3.toNat : Int), .int .u8 (u0.toNat : Int), .int .u8 (u1.toNat : Int), .int .u8 (u2.toNat : Int), .int .u8 (u3.toNat : Int), .int .u8 (u4.toNat : Int), .int .u8 (u5.toNat : Int), .int .u8 (v0.toNat : Int), .int .u8 (v1.toNat : Int), .int .u8 (v2.toNat : Int), .int .u8 (v3.toNat : Int)] rfl rfl _ _ HG2.out (by kernel_rfl) rfl (by kernel_rfl) ?_)
      (try simp only [Exit.inBlock, Exit.then])
      refine ret_row (g := w.heap.size) (cs := #[.int .i64 (o.toNat : Int), .int .u8 (x0.toNat : Int), .int .u8 (x1.toNat : Int), .int .u8 (x2.toNat : Int), .int .u8 (x3.toNat : Int), .int .u8 (x4.toNat : Int), .int .u8 (x5.toNat : Int), .int .u8 (y0.toNat : Int), .int .u8 (y1.toNat : Int), .int .u8 (y2.toNat : Int), .int .u8 (y3.toNat : Int), .int .u8 (u0.toNat : Int), .int .u8 (u1.toNat : Int), .int .u8 (u2.toNat : Int), .int .u8 (u3.toNat : Int), .int .u8 (u4.toNat : Int), .int .u8 (u5.toNat : Int), .int .u8 (v0.toNat : Int), .int .u8 (v1.toNat : Int), .int .u8 (v2.toNat : Int), .int .u8 (v3.toNat : Int)]) rfl rfl (load_ar (setRow_heap w2 _ _ _ _ _ HG2.out) rfl) rfl ?_
      rw [HRR.out]
      exact ⟨_, rfl, ⟨rfl, rfl, rfl, rfl, rfl⟩, below_setRow HB2.out (Nat.le_refl _) _⟩
    · have HRR := Lib.hid (HR.out.symm.trans (if_neg fun h => hk h.2))
      have HK := Lib.hid (show knownB (o.toNat : Int) = false by simpa using hk)
      unfold headB at hh
      subst hh
      clear HR hk cx0 cx1 cx2 cx3 cx4 cx5 cy0 cy1 cy2 cy3 cu0 cu1 cu2 cu3 cu4 cu5 cv0 cv1 cv2 cv3 q2 q3 q4 q5
      go_wp2_with fail
      refine (known_any _ _).mono ?_
      rintro e w2 ⟨rfl, rfl⟩
      rw [HK.out]
      go_wp2_with (refine wpList_store_row rfl 44 _ _ rfl w.heap.size #[.int .i64 0, .int .u8 0, .int .u8 0, .int .u8 0, .int .u8 0, .int .u8 0, .int .u8 0, .int .u8 0, .int .u8 0, .int .u8 0, .int .u8 0, .int .u8 0, .int .u8 0, .int .u8 0, .int .u8 0, .int .u8 0, .int .u8 0, .int .u8 0, .int .u8 0, .int .u8 0, .int .u8 0] rfl rfl _ _ HG1.out (by kernel_rfl) rfl (by kernel_rfl) ?_)
      (try simp only [Exit.inBlock, Exit.then])
      refine ret_row (g := w.heap.size) (cs := #[.int .i64 0, .int .u8 0, .int .u8 0, .int .u8 0, .int .u8 0, .int .u8 0, .int .u8 0, .int .u8 0, .int .u8 0, .int .u8 0, .int .u8 0, .int .u8 0, .int .u8 0, .int .u8 0, .int .u8 0, .int .u8 0, .int .u8 0, .int .u8 0, .int .u8 0, .int .u8 0, .int .u8 0]) rfl rfl (load_ar (setRow_heap w1 _ _ _ _ _ HG1.out) rfl) rfl ?_
      rw [HRR.out]
      exact ⟨_, rfl, zero_arV, below_setRow HB1.out (Nat.le_refl _) _⟩
  · have HRR := Lib.hid (HR.out.symm.trans (if_neg fun h => hh h.1))
    unfold headB at hh
    obtain ⟨z1, z2⟩ := texts_ne hh
    clear HR hh cx0 cx1 cx2 cx3 cx4 cx5 cy0 cy1 cy2 cy3 cu0 cu1 cu2 cu3 cu4 cu5 cv0 cv1 cv2 cv3 q2 q3 q4 q5
    go_wp2_with (refine wpList_store_row rfl 44 _ _ rfl w.heap.size #[.int .i64 0, .int .u8 0, .int .u8 0, .int .u8 0, .int .u8 0, .int .u8 0, .int .u8 0, .int .u8 0, .int .u8 0, .int .u8 0, .int .u8 0, .int .u8 0, .int .u8 0, .int .u8 0, .int .u8 0, .int .u8 0, .int .u8 0, .int .u8 0, .int .u8 0, .int .u8 0, .int .u8 0] rfl rfl _ _ HG1.out (by kernel_rfl) rfl (by kernel_rfl) ?_)
    (try simp only [Exit.inBlock, Exit.then])
    refine ret_row (g := w.heap.size) (cs := #[.int .i64 0, .int .u8 0, .int .u8 0, .int .u8 0, .int .u8 0, .int .u8 0, .int .u8 0, .int .u8 0, .int .u8 0, .int .u8 0, .int .u8 0, .int .u8 0, .int .u8 0, .int .u8 0, .int .u8 0, .int .u8 0, .int .u8 0, .int .u8 0, .int .u8 0, .int .u8 0, .int .u8 0]) rfl rfl (load_ar (setRow_heap w1 _ _ _ _ _ HG1.out) rfl) rfl ?_
    rw [HRR.out]
    exact ⟨_, rfl, zero_arV, below_setRow HB1.out (Nat.le_refl _) _⟩

/-- ether.ParseArp, all of it -/
theorem parsearp_any (A : Option Addr) (l : List UInt8) (c lo hi : Nat) (w : World) (h : Rd w lo hi A (cells l)) (hhi : hi ≤ w.heap.size) (hl : l.length ≤ 1000000000) (hc : l.length ≤ c) (hm : c ≤ maxLen) :
    Calls Try.prog 17 #[.slice A l.length c] w (ArpPost w (parseA l)) := by
  by_cases h1 : l.length < 28
  · have e : parseA l = (Ar.zero, 6) := by unfold parseA; rw [if_pos h1]
    rw [e]
    exact parsearp_cut A l c lo hi w h hhi h1 hc hm
  · obtain ⟨k0, k1, k2, k3, k4, k5, k6, o, x0, x1, x2, x3, x4, x5, y0, y1, y2, y3, u0, u1, u2, u3, u4, u5, v0, v1, v2, v3, b, rfl⟩ := twentyeight l (by omega)
    have hl' : (k0 :: k1 :: k2 :: k3 :: k4 :: k5 :: k6 :: o :: x0 :: x1 :: x2 :: x3 :: x4 :: x5 :: y0 :: y1 :: y2 :: y3 :: u0 :: u1 :: u2 :: u3 :: u4 :: u5 :: v0 :: v1 :: v2 :: v3 :: b).length = 28 + b.length := by simp; omega
    have hp := parsearp_full A [k0, k1, k2, k3, k4, k5, k6] o x0 x1 x2 x3 x4 x5 y0 y1 y2 y3 u0 u1 u2 u3 u4 u5 v0 v1 v2 v3 b (28 + b.length) c lo hi w rfl rfl h hhi (by omega) (by omega) hm
    rw [hl']
    have e : parseA (k0 :: k1 :: k2 :: k3 :: k4 :: k5 :: k6 :: o :: x0 :: x1 :: x2 :: x3 :: x4 :: x5 :: y0 :: y1 :: y2 :: y3 :: u0 :: u1 :: u2 :: u3 :: u4 :: u5 :: v0 :: v1 :: v2 :: v3 :: b) = (if [k0, k1, k2, k3, k4, k5, k6] = headB ∧ knownB (o.toNat : Int) = true then ((⟨(o.toNat : Int), [x0, x1, x2, x3, x4, x5], [y0, y1, y2, y3], [u0, u1, u2, u3, u4, u5], [v0, v1, v2, v3]⟩ : Ar), 0) else (Ar.zero, 7)) := by
      unfold parseA
      rw [if_neg h1]
      rfl
    rw [e]
    exact hp
end Go.Proofs.Ytooepllgefndnaa
