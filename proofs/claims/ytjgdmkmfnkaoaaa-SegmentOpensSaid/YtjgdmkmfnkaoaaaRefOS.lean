/-
  The document's own answer for the segment of bytes (caravelref09.Open): what the plain function gives, the data in a row of the call's own. Every text, every two hosts. No condition.
-/
import Derived.Test.YtjgdmkmfnkaoaaaRefN
import Derived.Test.YtjgdmkmfnkaoaaaOpenS
import Derived.Deep.DeepCutAuto
namespace Go.Proofs.Ytjgdmkmfnkaoaaa
open Go.RowKit

/-- a segment's value, the data in a row of the call's own; in block g -/
def SgV (B : Nat) (x : Sg) : Pred := fun v w => ∃ A c, v = .agg #[.int .u16 (x.src : Int), .int .u16 (x.dst : Int), .int .u32 (x.seq : Int), .int .u32 (x.ack : Int), .int .u8 (x.flags.toNat : Int), .int .u16 (x.wnd : Int), .int .u16 (x.mss : Int), .slice A x.data.length c] ∧ Bk w B A c x.data
def SgS (B g : Nat) (x : Sg) : Pred := fun _ w => ∃ A c, w.heap[g]? = some (.cells #[.int .u16 (x.src : Int), .int .u16 (x.dst : Int), .int .u32 (x.seq : Int), .int .u32 (x.ack : Int), .int .u8 (x.flags.toNat : Int), .int .u16 (x.wnd : Int), .int .u16 (x.mss : Int), .slice A x.data.length c] 26 (0, 0)) ∧ Bk w B A c x.data
theorem sgV_mono (B : Nat) (x : Sg) : Mono (SgV B x) := fun _ _ _ hb ⟨A, c, e, h⟩ => ⟨A, c, e, h.grow hb⟩
theorem sgV_st {g B : Nat} (hg : g < B) (x : Sg) : Stable g (SgV B x) := fun _ _ _ hb ⟨A, c, e, h⟩ => ⟨A, c, e, h.gro hg hb⟩
theorem sgS_mono (B g : Nat) (x : Sg) : Mono (SgS B g x) := fun _ _ _ hb ⟨A, c, e, h⟩ => ⟨A, c, (hb.block g (row_lt e)).trans e, h.grow hb⟩
set_option maxRecDepth 100000 in
set_option maxHeartbeats 4000000 in
theorem ropen_any (l : List UInt8) (s0 s1 s2 s3 d0 d1 d2 d3 : UInt8) (w : World) (hl : l.length ≤ 1200) : Calls Try.prog 16 #[txt l, .agg #[.int .u8 (s0.toNat : Int), .int .u8 (s1.toNat : Int), .int .u8 (s2.toNat : Int), .int .u8 (s3.toNat : Int)], .agg #[.int .u8 (d0.toNat : Int), .int .u8 (d1.toNat : Int), .int .u8 (d2.toNat : Int), .int .u8 (d3.toNat : Int)]] w (SgO w (sgOpen [s0, s1, s2, s3] [d0, d1, d2, d3] l)) := by
  have HL63 : Hid (l.length ≤ maxLen) := by show _ ≤ _; unfold maxLen; omega
  obtain ⟨w2, hw2⟩ : ∃ w2, (((w.alloc (.cells #[.int .u8 (s0.toNat : Int), .int .u8 (s1.toNat : Int), .int .u8 (s2.toNat : Int), .int .u8 (s3.toNat : Int)] 28)).alloc (.cells #[.int .u8 (d0.toNat : Int), .int .u8 (d1.toNat : Int), .int .u8 (d2.toNat : Int), .int .u8 (d3.toNat : Int)] 28)).alloc (.cells #[.int .u16 0, .int .u16 0, .int .u32 0, .int .u32 0, .int .u8 0, .int .u16 0, .int .u16 0, .slice none 0 0] 26)).alloc (.cells #[.int .u16 0, .int .u16 0, .int .u32 0, .int .u32 0, .int .u8 0, .int .u16 0, .int .u16 0, .slice none 0 0] 26) = w2 := ⟨_, rfl⟩
  have HB2 : Hid (Below w.heap.size w w2) := by show Below _ _ _; rw [← hw2]; exact ((((Below.refl _ _).alloc (Nat.le_refl _) _).alloc (by simp) _).alloc (by simp; omega) _).alloc (by simp; omega) _
  have HGS : Hid (w2.heap[w.heap.size]? = some (.cells #[.int .u8 (s0.toNat : Int), .int .u8 (s1.toNat : Int), .int .u8 (s2.toNat : Int), .int .u8 (s3.toNat : Int)] 28 (0, 0))) := by show _ = _; rw [← hw2]; exact old_alloc (old_alloc (old_alloc (heap_alloc_new w _) _) _) _
  have HGD : Hid (w2.heap[w.heap.size + 1]? = some (.cells #[.int .u8 (d0.toNat : Int), .int .u8 (d1.toNat : Int), .int .u8 (d2.toNat : Int), .int .u8 (d3.toNat : Int)] 28 (0, 0))) := by
    have := heap_alloc_new (w.alloc (.cells #[.int .u8 (s0.toNat : Int), .int .u8 (s1.toNat : Int), .int .u8 (s2.toNat : Int), .int .u8 (s3.toNat : Int)] 28)) (.cells #[.int .u8 (d0.toNat : Int), .int .u8 (d1.toNat : Int), .int .u8 (d2.toNat : Int), .int .u8 (d3.toNat : Int)] 28)
    rw [World.size_alloc] at this
    show _ = _
    rw [← hw2]
    exact old_alloc (old_alloc this _) _
  have HGZ2 : Hid (w2.heap[w.heap.size + 2]? = some (.cells #[.int .u16 0, .int .u16 0, .int .u32 0, .int .u32 0, .int .u8 0, .int .u16 0, .int .u16 0, .slice none 0 0] 26 (0, 0))) := by
    have := heap_alloc_new ((w.alloc (.cells #[.int .u8 (s0.toNat : Int), .int .u8 (s1.toNat : Int), .int .u8 (s2.toNat : Int), .int .u8 (s3.toNat : Int)] 28)).alloc (.cells #[.int .u8 (d0.toNat : Int), .int .u8 (d1.toNat : Int), .int .u8 (d2.toNat : Int), .int .u8 (d3.toNat : Int)] 28)) (.cells #[.int .u16 0, .int .u16 0, .int .u32 0, .int .u32 0, .int .u8 0, .int .u16 0, .int .u16 0, .slice none 0 0] 26)
    rw [World.size_alloc, World.size_alloc] at this
    show _ = _
    rw [← hw2]
    exact old_alloc this _
  have HGN2 : Hid (w2.heap[w.heap.size + 3]? = some (.cells #[.int .u16 0, .int .u16 0, .int .u32 0, .int .u32 0, .int .u8 0, .int .u16 0, .int .u16 0, .slice none 0 0] 26 (0, 0))) := by
    have := heap_alloc_new (((w.alloc (.cells #[.int .u8 (s0.toNat : Int), .int .u8 (s1.toNat : Int), .int .u8 (s2.toNat : Int), .int .u8 (s3.toNat : Int)] 28)).alloc (.cells #[.int .u8 (d0.toNat : Int), .int .u8 (d1.toNat : Int), .int .u8 (d2.toNat : Int), .int .u8 (d3.toNat : Int)] 28)).alloc (.cells #[.int .u16 0, .int .u16 0, .int .u32 0, .int .u32 0, .int .u8 0, .int .u16 0, .int .u16 0, .slice none 0 0] 26)) (.cells #[.int .u16 0, .int .u16 0, .int .u32 0, .int .u32 0, .int .u8 0, .int .u16 0, .int .u16 0, .slice none 0 0] 26)
    rw [World.size_alloc, World.size_alloc, World.size_alloc] at this
    show _ = _
    rw [← hw2]
    exact this
  have HW2 := Lib.hid hw2
  clear hw2
  unfold txt
  go_enter Try.func16, Try.ntmps16
  go_upto_region 2 with (fail)
  try rw [HW2.out]
  clear HW2
  --STOP1
  by_cases h20 : l.length < 20
  · have HE : Hid (sgOpen [s0, s1, s2, s3] [d0, d1, d2, d3] l = (Sg.zero, 6)) := by show _ = _; unfold sgOpen; rw [if_pos h20]
    go_wp2_with (first | refine wpList_load_row rfl 26 _ rfl (w.heap.size + 3) rfl 26 #[.int .u16 0, .int .u16 0, .int .u32 0, .int .u32 0, .int .u8 0, .int .u16 0, .int .u16 0, .slice none 0 0] (0, 0) _ HGN2.out Try.underlying26 rfl (by kernel_rfl) ?_ | refine wpList_store_row rfl 26 _ _ rfl (w.heap.size + 2) #[.int .u16 0, .int .u16 0, .int .u32 0, .int .u32 0, .int .u8 0, .int .u16 0, .int .u16 0, .slice none 0 0] rfl rfl 26 #[.int .u16 0, .int .u16 0, .int .u32 0, .int .u32 0, .int .u8 0, .int .u16 0, .int .u16 0, .slice none 0 0] HGZ2.out (by kernel_rfl) rfl (by kernel_rfl) ?_)
    (try simp only [Exit.inBlock, Exit.then])
    refine ret_row (g := w.heap.size + 2) (cs := #[.int .u16 0, .int .u16 0, .int .u32 0, .int .u32 0, .int .u8 0, .int .u16 0, .int .u16 0, .slice none 0 0]) rfl rfl (load_sg (setRow_heap w2 _ _ _ _ _ HGZ2.out) rfl) rfl ?_
    rw [HE.out]
    exact ⟨_, rfl, zero_sg _ _ _, below_setRowO HB2.out (by omega) _⟩
  have j12 : 12 < l.length := by omega
  have j13 : 13 < l.length := by omega
  have i12 : (12 : Int) < (l.length : Int) := by omega
  have i13 : (13 : Int) < (l.length : Int) := by omega
  obtain ⟨x, hx⟩ : ∃ x, l[12] = x := ⟨_, rfl⟩
  obtain ⟨f, hf⟩ : ∃ f, l[13] = f := ⟨_, rfl⟩
  have z12 : (⟨l.toArray⟩ : ByteArray)[12]'(by show 12 < l.length; exact j12) = x := hx
  have z13 : (⟨l.toArray⟩ : ByteArray)[13]'(by show 13 < l.length; exact j13) = f := hf
  have g12 : l.getD 12 0 = x := by rw [List.getD_eq_getElem?_getD, List.getElem?_eq_getElem j12, hx]; rfl
  have g13 : l.getD 13 0 = f := by rw [List.getD_eq_getElem?_getD, List.getElem?_eq_getElem j13, hf]; rfl
  have hxl := x.toNat_lt
  have hfl := f.toNat_lt
  obtain ⟨hq, hh⟩ : ∃ h, 4 * (x.toNat / 16) = h := ⟨_, rfl⟩
  have hh2 : ((x.toNat : Int) / 16) * (4 : Int) = (hq : Int) := by omega
  have HHD : Hid (headN l = hq) := by show _ = _; unfold headN; rw [g12, hh]
  have HE0 : Hid (sgOpen [s0, s1, s2, s3] [d0, d1, d2, d3] l = (if hq < 20 then (Sg.zero, 7) else if l.length < hq then (Sg.zero, 6) else if 1000 < l.length then (Sg.zero, 4) else if sumL (pseudoT [s0, s1, s2, s3] [d0, d1, d2, d3] l.length ++ l) ≠ 65535 then (Sg.zero, 8) else match opts 0 ((l.take hq).drop 20) with | none => (Sg.zero, 7) | some m => (sgOf l m, 0) : Sg × Int)) := by
    show _ = _
    unfold sgOpen
    rw [if_neg h20, HHD.out]
    rfl
  clear hx hf hh g12
  by_cases h7 : hq < 20
  · have HE := Lib.hid (HE0.out.trans (if_pos h7))
    go_wp2_with (first | refine wpList_load_row rfl 26 _ rfl (w.heap.size + 3) rfl 26 #[.int .u16 0, .int .u16 0, .int .u32 0, .int .u32 0, .int .u8 0, .int .u16 0, .int .u16 0, .slice none 0 0] (0, 0) _ HGN2.out Try.underlying26 rfl (by kernel_rfl) ?_ | refine wpList_store_row rfl 26 _ _ rfl (w.heap.size + 2) #[.int .u16 0, .int .u16 0, .int .u32 0, .int .u32 0, .int .u8 0, .int .u16 0, .int .u16 0, .slice none 0 0] rfl rfl 26 #[.int .u16 0, .int .u16 0, .int .u32 0, .int .u32 0, .int .u8 0, .int .u16 0, .int .u16 0, .slice none 0 0] HGZ2.out (by kernel_rfl) rfl (by kernel_rfl) ?_)
    (try simp only [Exit.inBlock, Exit.then])
    refine ret_row (g := w.heap.size + 2) (cs := #[.int .u16 0, .int .u16 0, .int .u32 0, .int .u32 0, .int .u8 0, .int .u16 0, .int .u16 0, .slice none 0 0]) rfl rfl (load_sg (setRow_heap w2 _ _ _ _ _ HGZ2.out) rfl) rfl ?_
    rw [HE.out]
    exact ⟨_, rfl, zero_sg _ _ _, below_setRowO HB2.out (by omega) _⟩
  have HE1 := Lib.hid (HE0.out.trans (if_neg h7))
  by_cases h6 : l.length < hq
  · have HE := Lib.hid (HE1.out.trans (if_pos h6))
    go_wp2_with (first | refine wpList_load_row rfl 26 _ rfl (w.heap.size + 3) rfl 26 #[.int .u16 0, .int .u16 0, .int .u32 0, .int .u32 0, .int .u8 0, .int .u16 0, .int .u16 0, .slice none 0 0] (0, 0) _ HGN2.out Try.underlying26 rfl (by kernel_rfl) ?_ | refine wpList_store_row rfl 26 _ _ rfl (w.heap.size + 2) #[.int .u16 0, .int .u16 0, .int .u32 0, .int .u32 0, .int .u8 0, .int .u16 0, .int .u16 0, .slice none 0 0] rfl rfl 26 #[.int .u16 0, .int .u16 0, .int .u32 0, .int .u32 0, .int .u8 0, .int .u16 0, .int .u16 0, .slice none 0 0] HGZ2.out (by kernel_rfl) rfl (by kernel_rfl) ?_)
    (try simp only [Exit.inBlock, Exit.then])
    refine ret_row (g := w.heap.size + 2) (cs := #[.int .u16 0, .int .u16 0, .int .u32 0, .int .u32 0, .int .u8 0, .int .u16 0, .int .u16 0, .slice none 0 0]) rfl rfl (load_sg (setRow_heap w2 _ _ _ _ _ HGZ2.out) rfl) rfl ?_
    rw [HE.out]
    exact ⟨_, rfl, zero_sg _ _ _, below_setRowO HB2.out (by omega) _⟩
  have HE2 := Lib.hid (HE1.out.trans (if_neg h6))
  by_cases h4 : 1000 < l.length
  · have HE := Lib.hid (HE2.out.trans (if_pos h4))
    go_wp2_with (first | refine wpList_load_row rfl 26 _ rfl (w.heap.size + 3) rfl 26 #[.int .u16 0, .int .u16 0, .int .u32 0, .int .u32 0, .int .u8 0, .int .u16 0, .int .u16 0, .slice none 0 0] (0, 0) _ HGN2.out Try.underlying26 rfl (by kernel_rfl) ?_ | refine wpList_store_row rfl 26 _ _ rfl (w.heap.size + 2) #[.int .u16 0, .int .u16 0, .int .u32 0, .int .u32 0, .int .u8 0, .int .u16 0, .int .u16 0, .slice none 0 0] rfl rfl 26 #[.int .u16 0, .int .u16 0, .int .u32 0, .int .u32 0, .int .u8 0, .int .u16 0, .int .u16 0, .slice none 0 0] HGZ2.out (by kernel_rfl) rfl (by kernel_rfl) ?_)
    (try simp only [Exit.inBlock, Exit.then])
    refine ret_row (g := w.heap.size + 2) (cs := #[.int .u16 0, .int .u16 0, .int .u32 0, .int .u32 0, .int .u8 0, .int .u16 0, .int .u16 0, .slice none 0 0]) rfl rfl (load_sg (setRow_heap w2 _ _ _ _ _ HGZ2.out) rfl) rfl ?_
    rw [HE.out]
    exact ⟨_, rfl, zero_sg _ _ _, below_setRowO HB2.out (by omega) _⟩
  have HE3 := Lib.hid (HE2.out.trans (if_neg h4))
  clear HE0 HE1 HE2
  --STOP2
  go_wp2_with (first | refine wpList_load_row rfl 28 _ rfl w.heap.size rfl 28 #[.int .u8 (s0.toNat : Int), .int .u8 (s1.toNat : Int), .int .u8 (s2.toNat : Int), .int .u8 (s3.toNat : Int)] (0, 0) _ HGS.out Try.underlying28 rfl (by kernel_rfl) ?_ | refine wpList_load_row rfl 28 _ rfl (w.heap.size + 1) rfl 28 #[.int .u8 (d0.toNat : Int), .int .u8 (d1.toNat : Int), .int .u8 (d2.toNat : Int), .int .u8 (d3.toNat : Int)] (0, 0) _ HGD.out Try.underlying28 rfl (by kernel_rfl) ?_)
  have hps0 := refpseudo_any s0 s1 s2 s3 d0 d1 d2 d3 6 l.length w2 (by omega)
  rw [show (((6 : UInt8).toNat : Nat) : Int) = 6 from rfl] at hps0
  --STOP9
  refine hps0.mono ?_
  clear hps0
  obtain ⟨ps, hps⟩ : ∃ ps, pseudoT [s0, s1, s2, s3] [d0, d1, d2, d3] l.length = ps := ⟨_, rfl⟩
  have hps2 : [s0, s1, s2, s3] ++ [d0, d1, d2, d3] ++ [0, 6] ++ two l.length = ps := hps
  rw [hps2]
  rintro e w3 ⟨rfl, hb3⟩
  rw [hps] at HE3
  have hpl : ps.length = 12 := by rw [← hps]; rfl
  have HB3 := Lib.hid (HB2.out.trans (hb3.mono HB2.out.size))
  have HGZ3 := Lib.hid ((hb3.block _ (row_lt HGZ2.out)).trans HGZ2.out)
  have HGN3 := Lib.hid ((hb3.block _ (row_lt HGN2.out)).trans HGN2.out)
  clear hb3 hps hps2
  have v11 : ¬ 9223372036854775807 < ps.length + l.length := by omega
  have hap : (⟨ps.toArray⟩ : ByteArray) ++ ⟨l.toArray⟩ = ⟨(ps ++ l).toArray⟩ := str_app ps l
  have HF := Lib.hid (reffold_any (ps ++ l) w3 (by rw [List.length_append]; omega))
  unfold txt at HF ⊢
  --STOP3
  go_wp2_with fail
  try rw [hap]
  refine HF.out.mono ?_
  rintro e w4 ⟨rfl, rfl⟩
  clear HF hap v11
  by_cases h8 : sumL (ps ++ l) = 65535
  rotate_left
  · have HE := Lib.hid (HE3.out.trans (if_pos h8))
    have q1 : (((sumL (ps ++ l) : Nat) : Int) != 65535) = true := bneT (by omega)
    go_wp2_with (first | refine wpList_load_row rfl 26 _ rfl (w.heap.size + 3) rfl 26 #[.int .u16 0, .int .u16 0, .int .u32 0, .int .u32 0, .int .u8 0, .int .u16 0, .int .u16 0, .slice none 0 0] (0, 0) _ HGN3.out Try.underlying26 rfl (by kernel_rfl) ?_ | refine wpList_store_row rfl 26 _ _ rfl (w.heap.size + 2) #[.int .u16 0, .int .u16 0, .int .u32 0, .int .u32 0, .int .u8 0, .int .u16 0, .int .u16 0, .slice none 0 0] rfl rfl 26 #[.int .u16 0, .int .u16 0, .int .u32 0, .int .u32 0, .int .u8 0, .int .u16 0, .int .u16 0, .slice none 0 0] HGZ3.out (by kernel_rfl) rfl (by kernel_rfl) ?_)
    (try simp only [Exit.inBlock, Exit.then])
    refine ret_row (g := w.heap.size + 2) (cs := #[.int .u16 0, .int .u16 0, .int .u32 0, .int .u32 0, .int .u8 0, .int .u16 0, .int .u16 0, .slice none 0 0]) rfl rfl (load_sg (setRow_heap w3 _ _ _ _ _ HGZ3.out) rfl) rfl ?_
    rw [HE.out]
    exact ⟨_, rfl, zero_sg _ _ _, below_setRowO HB3.out (by omega) _⟩
  have HE4 := Lib.hid (HE3.out.trans (if_neg (by simp [h8])))
  have q1 : (((sumL (ps ++ l) : Nat) : Int) != 65535) = false := bneF (by omega)
  obtain ⟨ol, hol2⟩ : ∃ ol, (l.take hq).drop 20 = ol := ⟨_, rfl⟩
  have hex1 := ba_take l 20 hq
  rw [hol2] at HE4 hex1
  have hol : ol.length ≤ 1000 := by rw [← hol2, List.length_drop, List.length_take]; omega
  have HRO := Lib.hid (ropts_any ol w3 hol)
  unfold txt at HRO
  have v4 : (hq : Int).toNat = hq := by omega
  have v5 : (20 : Int) ≤ (hq : Int) := by omega
  have v6 : hq ≤ l.length := by omega
  clear h8 hol hol2 HE3
  --STOP4
  go_wp2_with fail
  try rw [hex1]
  refine HRO.out.mono ?_
  rintro e w5 ⟨rfl, hb5⟩
  have HB5 := Lib.hid (HB3.out.trans (hb5.mono HB3.out.size))
  have HGZ5 := Lib.hid ((hb5.block _ (row_lt HGZ3.out)).trans HGZ3.out)
  have HGN5 := Lib.hid ((hb5.block _ (row_lt HGN3.out)).trans HGN3.out)
  have hm16 : ∀ m, opts 0 ol = some m → m < 65536 := fun m hm => opts_lt _ _ _ _ (Nat.le_refl _) (by omega) hm
  clear hb5 q1 hex1
  cases hop : opts 0 ol with
  | none =>
    rw [hop] at HE4
    have HE := HE4
    have HO := Lib.hid (readOpts_none hop)
    rw [HO.out]
    clear hop hm16
    go_wp2_with (first | refine wpList_load_row rfl 26 _ rfl (w.heap.size + 3) rfl 26 #[.int .u16 0, .int .u16 0, .int .u32 0, .int .u32 0, .int .u8 0, .int .u16 0, .int .u16 0, .slice none 0 0] (0, 0) _ HGN5.out Try.underlying26 rfl (by kernel_rfl) ?_ | refine wpList_store_row rfl 26 _ _ rfl (w.heap.size + 2) #[.int .u16 0, .int .u16 0, .int .u32 0, .int .u32 0, .int .u8 0, .int .u16 0, .int .u16 0, .slice none 0 0] rfl rfl 26 #[.int .u16 0, .int .u16 0, .int .u32 0, .int .u32 0, .int .u8 0, .int .u16 0, .int .u16 0, .slice none 0 0] HGZ5.out (by kernel_rfl) rfl (by kernel_rfl) ?_)
    (try simp only [Exit.inBlock, Exit.then])
    refine ret_row (g := w.heap.size + 2) (cs := #[.int .u16 0, .int .u16 0, .int .u32 0, .int .u32 0, .int .u8 0, .int .u16 0, .int .u16 0, .slice none 0 0]) rfl rfl (load_sg (setRow_heap w5 _ _ _ _ _ HGZ5.out) rfl) rfl ?_
    rw [HE.out]
    exact ⟨_, rfl, zero_sg _ _ _, below_setRowO HB5.out (by omega) _⟩
  | some m =>
    have hm2 := hm16 m hop
    rw [hop] at HE4
    have HE5 : Hid (sgOpen [s0, s1, s2, s3] [d0, d1, d2, d3] l = (sgOf l m, 0)) := HE4.out
    have HO := Lib.hid (readOpts_some hop)
    rw [HO.out]
    clear hop hm16
    obtain ⟨data, hdata⟩ : ∃ data, l.drop hq = data := ⟨_, rfl⟩
    have HDL : Hid (data.length ≤ 1000000000) := by show _ ≤ _; rw [← hdata, List.length_drop]; omega
    have hex := ba_take l hq l.length
    rw [List.take_length, hdata] at hex
    have HEX := Lib.hid hex
    have HSG : Hid (sgOf l m = ⟨numAt l 0, numAt l 2, num4 l 4, num4 l 8, UInt8.ofNat (f.toNat % 32), numAt l 14, if f.toNat / 2 % 2 = 1 then m else 0, data⟩) := by show _ = _; unfold sgOf; rw [g13, HHD.out, hdata]
    have hf8 : (UInt8.ofNat (f.toNat % 32)).toNat = f.toNat % 32 := small_flags (by omega)
    have b0 := numAt_lt l 0
    have b2 := numAt_lt l 2
    have b4 := num4_lt l 4
    have b8 := num4_lt l 8
    have b14 := numAt_lt l 14
    obtain ⟨p0, e0⟩ : ∃ p, numAt l 0 = p := ⟨_, rfl⟩
    obtain ⟨p2, e2⟩ : ∃ p, numAt l 2 = p := ⟨_, rfl⟩
    obtain ⟨p4, e4⟩ : ∃ p, num4 l 4 = p := ⟨_, rfl⟩
    obtain ⟨p8, e8⟩ : ∃ p, num4 l 8 = p := ⟨_, rfl⟩
    obtain ⟨p14, e14⟩ : ∃ p, numAt l 14 = p := ⟨_, rfl⟩
    obtain ⟨fl, efl⟩ : ∃ p, UInt8.ofNat (f.toNat % 32) = p := ⟨_, rfl⟩
    rw [e0, e2, e4, e8, e14, efl] at HSG
    rw [efl] at hf8
    rw [e0] at b0
    rw [e2] at b2
    rw [e4] at b4
    rw [e8] at b8
    rw [e14] at b14
    have HP0 := Lib.hid e0
    have HP2 := Lib.hid e2
    have HP4 := Lib.hid e4
    have HP8 := Lib.hid e8
    have HP14 := Lib.hid e14
    have HU0 : Hid (IntKind.u16.wrap (p0 : Int) = (p0 : Int)) := IntWalk.u16_in _ ⟨by omega, by omega⟩
    have HU2 : Hid (IntKind.u16.wrap (p2 : Int) = (p2 : Int)) := IntWalk.u16_in _ ⟨by omega, by omega⟩
    have HU14 : Hid (IntKind.u16.wrap (p14 : Int) = (p14 : Int)) := IntWalk.u16_in _ ⟨by omega, by omega⟩
    have HF8 : Hid ((f.toNat : Int) % 32 = (fl.toNat : Int)) := by show _ = _; rw [hf8]; omega
    have HOKX : Hid (p0 < 65536 ∧ p2 < 65536 ∧ p4 < 4294967296 ∧ p8 < 4294967296 ∧ p14 < 65536) := ⟨b0, b2, b4, b8, b14⟩
    have hbit : f.toNat / 2 % 2 = 0 ∨ f.toNat / 2 % 2 = 1 := by omega
    have HGG := HGZ5
    have HGB : Hid (w.heap.size + 2 < w5.heap.size) := row_lt HGZ5.out
    have v7 : (0 : Int) ≤ (hq : Int) := by omega
    have v8 : (hq : Int) ≤ (l.length : Int) := by omega
    clear b0 b2 b4 b8 b14 e0 e2 e4 e8 e14 efl g13 hdata hex hf8
    rcases hbit with hb0 | hb0
    · rw [hb0, if_neg (by decide)] at HSG
      have q2 : ((f.toNat : Int) / 2 % 2 == 0) = true := beqT (by omega)
      have hmm : 0 < 65536 := by decide
      clear hb0
      --STOP5
      go_upto_region 18 with (fail)
      clear q2
      --STOP6
      apply wp_region_rely (· = w.heap.size + 2) (RL [Is _, Is (.int .i64 (p0 : Int)), Is (.int .u16 (p0 : Int)), Is _, Is (.int .i64 (p2 : Int)), Is (.int .u16 (p2 : Int)), Is _, Is (.int .u32 (p4 : Int)), Is _, Is (.int .u32 (p8 : Int)), Is _, Is _, Is (.int .u8 (fl.toNat : Int)), Is _, Is (.int .i64 (p14 : Int)), Is (.int .u16 (p14 : Int)), Is (.int .u16 ((0 : Nat) : Int)), Is _, Is _, Is (txt data), Fresh w5.heap.size data, SgV w5.heap.size ⟨p0, p2, p4, p8, fl, p14, 0, data⟩, SgS w5.heap.size (w.heap.size + 2) ⟨p0, p2, p4, p8, fl, p14, 0, data⟩, Is (.int .i64 0)]) [false, false, false, false, false, false, false, true, false, false, false, false, false, false, false, false, false, false, false, false, false, false, false, false, false, false, false, false, false, false, false, false, false, false, false, false, false, false, false, false, false, false, false, false, false, false, false, false, false, false, false, false, false, false, false, false, false, false, false, true, true, true, true, true, true, true, true, true, true, true, true, true, true, true, true, true, true, true, true, true, true]
      · kernel_rfl
      · kernel_rfl
      · kernel_rfl
      · refine ⟨?_, ?_, ?_, ?_, ?_, ?_, ?_, ?_, ?_, ?_, ?_, ?_, ?_, ?_, ?_, ?_, ?_, ?_, ?_, ?_, ?_, ?_, ?_, ?_, trivial⟩
        · intro ev w' hC hc hf hb hr K hK
          have e0 : ev (.tmp 0) = _ := hb 0 (by kernel_rfl)
          have HK := Lib.hid hK
          have HC := Lib.hid hC
          clear hb hr hK hC hf
          unfold Run
          simp [execOp, Upon, go_sem, *]
          exact HK.out _ _ (.inl (Below.refl _ _)) rfl
        · intro ev w' hC hc hf hb hr K hK
          have e59 := hr 0 _ rfl (by kernel_rfl)
          change ev (.tmp 59) = _ at e59
          have HK := Lib.hid hK
          have HC := Lib.hid hC
          clear hb hr hK hC
          unfold Run
          simp [execOp, Upon, go_sem, *]
          refine (num_any l 0 _ (by omega) HL63.out).mono ?_
          rintro e w3 ⟨rfl, hb⟩
          exact ⟨_, rfl, HK.out _ _ (.inl hb) (by show _ = _; rw [HP0.out])⟩
        · intro ev w' hC hc hf hb hr K hK
          have e60 := hr 1 _ rfl (by kernel_rfl)
          change ev (.tmp 60) = _ at e60
          have HK := Lib.hid hK
          have HC := Lib.hid hC
          clear hb hr hK hC hf
          unfold Run
          simp [execOp, Upon, go_sem, *]
          exact HK.out _ _ (.inl (Below.refl _ _)) (by show Value.int _ _ = Value.int _ _; congr 1; first | done | exact HU0.out)
        · intro ev w' hC hc hf hb hr K hK
          have e0 : ev (.tmp 0) = _ := hb 0 (by kernel_rfl)
          have HK := Lib.hid hK
          have HC := Lib.hid hC
          clear hb hr hK hC hf
          unfold Run
          simp [execOp, Upon, go_sem, *]
          exact HK.out _ _ (.inl (Below.refl _ _)) rfl
        · intro ev w' hC hc hf hb hr K hK
          have e62 := hr 3 _ rfl (by kernel_rfl)
          change ev (.tmp 62) = _ at e62
          have HK := Lib.hid hK
          have HC := Lib.hid hC
          clear hb hr hK hC
          unfold Run
          simp [execOp, Upon, go_sem, *]
          refine (num_any l 2 _ (by omega) HL63.out).mono ?_
          rintro e w3 ⟨rfl, hb⟩
          exact ⟨_, rfl, HK.out _ _ (.inl hb) (by show _ = _; rw [HP2.out])⟩
        · intro ev w' hC hc hf hb hr K hK
          have e63 := hr 4 _ rfl (by kernel_rfl)
          change ev (.tmp 63) = _ at e63
          have HK := Lib.hid hK
          have HC := Lib.hid hC
          clear hb hr hK hC hf
          unfold Run
          simp [execOp, Upon, go_sem, *]
          exact HK.out _ _ (.inl (Below.refl _ _)) (by show Value.int _ _ = Value.int _ _; congr 1; first | done | exact HU2.out)
        · intro ev w' hC hc hf hb hr K hK
          have e0 : ev (.tmp 0) = _ := hb 0 (by kernel_rfl)
          have HK := Lib.hid hK
          have HC := Lib.hid hC
          clear hb hr hK hC hf
          unfold Run
          simp [execOp, Upon, go_sem, *]
          exact HK.out _ _ (.inl (Below.refl _ _)) rfl
        · intro ev w' hC hc hf hb hr K hK
          have e65 := hr 6 _ rfl (by kernel_rfl)
          change ev (.tmp 65) = _ at e65
          have HK := Lib.hid hK
          have HC := Lib.hid hC
          clear hb hr hK hC
          unfold Run
          simp [execOp, Upon, go_sem, *]
          refine (rnum_any l 4 _ (by omega) HL63.out).mono ?_
          rintro e w3 ⟨rfl, hb⟩
          exact ⟨_, rfl, HK.out _ _ (.inl hb) (by show _ = _; rw [HP4.out])⟩
        · intro ev w' hC hc hf hb hr K hK
          have e0 : ev (.tmp 0) = _ := hb 0 (by kernel_rfl)
          have HK := Lib.hid hK
          have HC := Lib.hid hC
          clear hb hr hK hC hf
          unfold Run
          simp [execOp, Upon, go_sem, *]
          exact HK.out _ _ (.inl (Below.refl _ _)) rfl
        · intro ev w' hC hc hf hb hr K hK
          have e67 := hr 8 _ rfl (by kernel_rfl)
          change ev (.tmp 67) = _ at e67
          have HK := Lib.hid hK
          have HC := Lib.hid hC
          clear hb hr hK hC
          unfold Run
          simp [execOp, Upon, go_sem, *]
          refine (rnum_any l 8 _ (by omega) HL63.out).mono ?_
          rintro e w3 ⟨rfl, hb⟩
          exact ⟨_, rfl, HK.out _ _ (.inl hb) (by show _ = _; rw [HP8.out])⟩
        · intro ev w' hC hc hf hb hr K hK
          have e0 : ev (.tmp 0) = _ := hb 0 (by kernel_rfl)
          have HK := Lib.hid hK
          have HC := Lib.hid hC
          clear hb hr hK hC hf
          unfold Run
          simp [execOp, Upon, go_sem, *]
          exact HK.out _ _ (.inl (Below.refl _ _)) rfl
        · intro ev w' hC hc hf hb hr K hK
          have e69 := hr 10 _ rfl (by kernel_rfl)
          change ev (.tmp 69) = _ at e69
          have HK := Lib.hid hK
          have HC := Lib.hid hC
          clear hb hr hK hC hf
          unfold Run
          simp [execOp, Upon, go_sem, *]
          exact HK.out _ _ (.inl (Below.refl _ _)) rfl
        · intro ev w' hC hc hf hb hr K hK
          have e70 := hr 11 _ rfl (by kernel_rfl)
          change ev (.tmp 70) = _ at e70
          have HK := Lib.hid hK
          have HC := Lib.hid hC
          clear hb hr hK hC hf
          unfold Run
          simp [execOp, Upon, go_sem, *]
          exact HK.out _ _ (.inl (Below.refl _ _)) (by show Value.int _ _ = Value.int _ _; congr 1; first | done | exact HF8.out)
        · intro ev w' hC hc hf hb hr K hK
          have e0 : ev (.tmp 0) = _ := hb 0 (by kernel_rfl)
          have HK := Lib.hid hK
          have HC := Lib.hid hC
          clear hb hr hK hC hf
          unfold Run
          simp [execOp, Upon, go_sem, *]
          exact HK.out _ _ (.inl (Below.refl _ _)) rfl
        · intro ev w' hC hc hf hb hr K hK
          have e72 := hr 13 _ rfl (by kernel_rfl)
          change ev (.tmp 72) = _ at e72
          have HK := Lib.hid hK
          have HC := Lib.hid hC
          clear hb hr hK hC
          unfold Run
          simp [execOp, Upon, go_sem, *]
          refine (num_any l 14 _ (by omega) HL63.out).mono ?_
          rintro e w3 ⟨rfl, hb⟩
          exact ⟨_, rfl, HK.out _ _ (.inl hb) (by show _ = _; rw [HP14.out])⟩
        · intro ev w' hC hc hf hb hr K hK
          have e73 := hr 14 _ rfl (by kernel_rfl)
          change ev (.tmp 73) = _ at e73
          have HK := Lib.hid hK
          have HC := Lib.hid hC
          clear hb hr hK hC hf
          unfold Run
          simp [execOp, Upon, go_sem, *]
          exact HK.out _ _ (.inl (Below.refl _ _)) (by show Value.int _ _ = Value.int _ _; congr 1; first | done | exact HU14.out)
        · intro ev w' hC hc hf hb hr K hK
          have e10 : ev (.tmp 10) = _ := hb 10 (by kernel_rfl)
          have HK := Lib.hid hK
          have HC := Lib.hid hC
          clear hb hr hK hC hf
          unfold Run
          simp [execOp, Upon, go_sem, *]
          exact HK.out _ _ (.inl (Below.refl _ _)) rfl
        · intro ev w' hC hc hf hb hr K hK
          have e0 : ev (.tmp 0) = _ := hb 0 (by kernel_rfl)
          have HK := Lib.hid hK
          have HC := Lib.hid hC
          clear hb hr hK hC hf
          unfold Run
          simp [execOp, Upon, go_sem, *]
          exact HK.out _ _ (.inl (Below.refl _ _)) rfl
        · intro ev w' hC hc hf hb hr K hK
          have e9 : ev (.tmp 9) = _ := hb 9 (by kernel_rfl)
          have HK := Lib.hid hK
          have HC := Lib.hid hC
          clear hb hr hK hC hf
          unfold Run
          simp [execOp, Upon, go_sem, *]
          exact HK.out _ _ (.inl (Below.refl _ _)) rfl
        · intro ev w' hC hc hf hb hr K hK
          have e76 := hr 17 _ rfl (by kernel_rfl)
          have e77 := hr 18 _ rfl (by kernel_rfl)
          change ev (.tmp 76) = _ at e76
          change ev (.tmp 77) = _ at e77
          have HK := Lib.hid hK
          have HC := Lib.hid hC
          clear hb hr hK hC hf
          unfold Run
          simp [execOp, Upon, go_sem, *]
          exact HK.out _ _ (.inl (Below.refl _ _)) (by show Value.string _ = Value.string _; congr 1; first | done | exact HEX.out)
        · intro ev w' hC hc hf hb hr K hK
          have e78 := hr 19 _ rfl (by kernel_rfl)
          change ev (.tmp 78) = _ at e78
          have HK := Lib.hid hK
          have HC := Lib.hid hC
          clear hb hr hK hC hf
          have kb := run_bytes w' data data.length rfl
          have HCAP := Lib.hid (cap_ok w' data.length HDL.out)
          unfold Run
          simp [execOp, Upon, go_sem, *]
          exact HK.out _ _ (.inl (bw_below (Below.refl _ _) (Nat.le_refl _) _)) ⟨_, _, rfl, ((bw_rd w' data).wide HC.out.size (by rw [bw_size]; exact Nat.le_refl _)), (fun h => by cases h), HCAP.out⟩
        · intro ev w' hC hc hf hb hr K hK
          have e61 := hr 2 _ rfl (by kernel_rfl)
          have e64 := hr 5 _ rfl (by kernel_rfl)
          have e66 := hr 7 _ rfl (by kernel_rfl)
          have e68 := hr 9 _ rfl (by kernel_rfl)
          have e71 := hr 12 _ rfl (by kernel_rfl)
          have e74 := hr 15 _ rfl (by kernel_rfl)
          have e75 := hr 16 _ rfl (by kernel_rfl)
          have e79 := hr 20 _ rfl (by kernel_rfl)
          change ev (.tmp 61) = _ at e61
          change ev (.tmp 64) = _ at e64
          change ev (.tmp 66) = _ at e66
          change ev (.tmp 68) = _ at e68
          change ev (.tmp 71) = _ at e71
          change ev (.tmp 74) = _ at e74
          change ev (.tmp 75) = _ at e75
          change (Fresh w5.heap.size data : Pred) (ev (.tmp 79)) _ at e79
          have HK := Lib.hid hK
          have HC := Lib.hid hC
          clear hb hr hK hC hf
          obtain ⟨A7, c7, q7, r7⟩ := e79
          have R7 := Lib.hid r7
          clear r7
          unfold Run
          simp [execOp, Upon, go_sem, *]
          exact HK.out _ _ (.inl (Below.refl _ _)) ⟨A7, c7, rfl, R7.out⟩
        · intro ev w' hC hc hf hb hr K hK
          have e6 : ev (.tmp 6) = _ := hb 6 (by kernel_rfl)
          have e80 := hr 21 _ rfl (by kernel_rfl)
          change (SgV w5.heap.size ⟨p0, p2, p4, p8, fl, p14, 0, data⟩ : Pred) (ev (.tmp 80)) _ at e80
          have HK := Lib.hid hK
          have HC := Lib.hid hC
          clear hb hr hK hC hf
          obtain ⟨A7, c7, q7, r7⟩ := e80
          obtain ⟨old, hold, hsz⟩ := HC.out.shape (w.heap.size + 2) _ _ _ HGG.out
          have hst := run_storeVar_row (P := Try.prog) w' (w.heap.size + 2) 26 26 old #[.int .u16 (p0 : Int), .int .u16 (p2 : Int), .int .u32 (p4 : Int), .int .u32 (p8 : Int), .int .u8 (fl.toNat : Int), .int .u16 (p14 : Int), .int .u16 ((0 : Nat) : Int), .slice A7 data.length c7] hold (by kernel_rfl) (by rw [hsz]; rfl) (by kernel_rfl)
          unfold Run
          rw [run_storeE 26 _ _ rfl e6 q7 hst]
          refine HK.out _ _ (.inr ⟨Gro.setRow hold _ (by rw [hsz]; rfl), fun j hj u hr => rl_st (g := w.heap.size + 2) (i := 22) 0 (by exact ⟨.inr (is_st _ _), .inr (is_st _ _), .inr (is_st _ _), .inr (is_st _ _), .inr (is_st _ _), .inr (is_st _ _), .inr (is_st _ _), .inr (is_st _ _), .inr (is_st _ _), .inr (is_st _ _), .inr (is_st _ _), .inr (is_st _ _), .inr (is_st _ _), .inr (is_st _ _), .inr (is_st _ _), .inr (is_st _ _), .inr (is_st _ _), .inr (is_st _ _), .inr (is_st _ _), .inr (is_st _ _), .inr (fresh_st HGB.out _), .inr (sgV_st HGB.out _), .inl rfl, .inr (is_st _ _), trivial⟩) j u _ _ (by omega) (Gro.setRow hold _ (by rw [hsz]; rfl)) hr⟩) ⟨A7, c7, setRow_heap _ _ _ _ _ _ hold, ?_⟩
          exact r7.setRow HGB.out _
        · intro ev w' hC hc hf hb hr K hK
          have HK := Lib.hid hK
          have HC := Lib.hid hC
          clear hb hr hK hC hf
          unfold Run
          simp [execOp, Upon, go_sem, *]
          exact HK.out _ _ (.inl (Below.refl _ _)) rfl
      · exact rl_mono ⟨is_mono _, is_mono _, is_mono _, is_mono _, is_mono _, is_mono _, is_mono _, is_mono _, is_mono _, is_mono _, is_mono _, is_mono _, is_mono _, is_mono _, is_mono _, is_mono _, is_mono _, is_mono _, is_mono _, is_mono _, fresh_mono _ _, sgV_mono _ _, sgS_mono _ _ _, is_mono _, trivial⟩
      intro us wr hG hH
      obtain ⟨-, -, -, -, -, -, -, -, -, -, -, -, -, -, -, -, -, -, -, -, -, -, h22, h23, -⟩ := hH
      simp only [fillM]
      change (SgS w5.heap.size (w.heap.size + 2) ⟨p0, p2, p4, p8, fl, p14, 0, data⟩ : Pred) undef wr at h22
      change us 7 = _ at h23
      rw [h23]
      clear h23
      generalize us 59 = v59
      generalize us 60 = v60
      generalize us 61 = v61
      generalize us 62 = v62
      generalize us 63 = v63
      generalize us 64 = v64
      generalize us 65 = v65
      generalize us 66 = v66
      generalize us 67 = v67
      generalize us 68 = v68
      generalize us 69 = v69
      generalize us 70 = v70
      generalize us 71 = v71
      generalize us 72 = v72
      generalize us 73 = v73
      generalize us 74 = v74
      generalize us 75 = v75
      generalize us 76 = v76
      generalize us 77 = v77
      generalize us 78 = v78
      generalize us 79 = v79
      generalize us 80 = v80
      obtain ⟨A7, c7, hgp, hbk⟩ := h22
      have HGP := Lib.hid hgp
      have HBK := Lib.hid hbk
      have HBF : Hid (Below w.heap.size w wr) := HB5.out.trans (hG.below (fun k hk => by omega) HB5.out.size)
      clear hgp hbk hG z12 z13
      go_wp2_with fail
      (try simp only [Exit.inBlock, Exit.then])
      refine ret_row (g := w.heap.size + 2) rfl rfl (load_sg HGP.out rfl) rfl ?_
      rw [HE5.out, HSG.out]
      exact ⟨_, rfl, ⟨A7, c7, rfl, ⟨HOKX.out.1, HOKX.out.2.1, HOKX.out.2.2.1, HOKX.out.2.2.2.1, HOKX.out.2.2.2.2, hmm⟩, HBK.out.1.wide (Nat.le_trans (by omega) (Nat.le_of_lt HGB.out)) (Nat.le_refl _), HBK.out.2.2.1, HBK.out.2.2.2, HBK.out.2.1⟩, HBF.out⟩
    · rw [hb0, if_pos rfl] at HSG
      have q2 : ((f.toNat : Int) / 2 % 2 == 0) = false := beqF (by omega)
      have hmm := hm2
      clear hb0
      --STOP5
      go_upto_region 18 with (fail)
      clear q2
      --STOP6
      apply wp_region_rely (· = w.heap.size + 2) (RL [Is _, Is (.int .i64 (p0 : Int)), Is (.int .u16 (p0 : Int)), Is _, Is (.int .i64 (p2 : Int)), Is (.int .u16 (p2 : Int)), Is _, Is (.int .u32 (p4 : Int)), Is _, Is (.int .u32 (p8 : Int)), Is _, Is _, Is (.int .u8 (fl.toNat : Int)), Is _, Is (.int .i64 (p14 : Int)), Is (.int .u16 (p14 : Int)), Is (.int .u16 ((m : Nat) : Int)), Is _, Is _, Is (txt data), Fresh w5.heap.size data, SgV w5.heap.size ⟨p0, p2, p4, p8, fl, p14, m, data⟩, SgS w5.heap.size (w.heap.size + 2) ⟨p0, p2, p4, p8, fl, p14, m, data⟩, Is (.int .i64 0)]) [false, false, false, false, false, false, false, true, false, false, false, false, false, false, false, false, false, false, false, false, false, false, false, false, false, false, false, false, false, false, false, false, false, false, false, false, false, false, false, false, false, false, false, false, false, false, false, false, false, false, false, false, false, false, false, false, false, false, false, true, true, true, true, true, true, true, true, true, true, true, true, true, true, true, true, true, true, true, true, true, true]
      · kernel_rfl
      · kernel_rfl
      · kernel_rfl
      · refine ⟨?_, ?_, ?_, ?_, ?_, ?_, ?_, ?_, ?_, ?_, ?_, ?_, ?_, ?_, ?_, ?_, ?_, ?_, ?_, ?_, ?_, ?_, ?_, ?_, trivial⟩
        · intro ev w' hC hc hf hb hr K hK
          have e0 : ev (.tmp 0) = _ := hb 0 (by kernel_rfl)
          have HK := Lib.hid hK
          have HC := Lib.hid hC
          clear hb hr hK hC hf
          unfold Run
          simp [execOp, Upon, go_sem, *]
          exact HK.out _ _ (.inl (Below.refl _ _)) rfl
        · intro ev w' hC hc hf hb hr K hK
          have e59 := hr 0 _ rfl (by kernel_rfl)
          change ev (.tmp 59) = _ at e59
          have HK := Lib.hid hK
          have HC := Lib.hid hC
          clear hb hr hK hC
          unfold Run
          simp [execOp, Upon, go_sem, *]
          refine (num_any l 0 _ (by omega) HL63.out).mono ?_
          rintro e w3 ⟨rfl, hb⟩
          exact ⟨_, rfl, HK.out _ _ (.inl hb) (by show _ = _; rw [HP0.out])⟩
        · intro ev w' hC hc hf hb hr K hK
          have e60 := hr 1 _ rfl (by kernel_rfl)
          change ev (.tmp 60) = _ at e60
          have HK := Lib.hid hK
          have HC := Lib.hid hC
          clear hb hr hK hC hf
          unfold Run
          simp [execOp, Upon, go_sem, *]
          exact HK.out _ _ (.inl (Below.refl _ _)) (by show Value.int _ _ = Value.int _ _; congr 1; first | done | exact HU0.out)
        · intro ev w' hC hc hf hb hr K hK
          have e0 : ev (.tmp 0) = _ := hb 0 (by kernel_rfl)
          have HK := Lib.hid hK
          have HC := Lib.hid hC
          clear hb hr hK hC hf
          unfold Run
          simp [execOp, Upon, go_sem, *]
          exact HK.out _ _ (.inl (Below.refl _ _)) rfl
        · intro ev w' hC hc hf hb hr K hK
          have e62 := hr 3 _ rfl (by kernel_rfl)
          change ev (.tmp 62) = _ at e62
          have HK := Lib.hid hK
          have HC := Lib.hid hC
          clear hb hr hK hC
          unfold Run
          simp [execOp, Upon, go_sem, *]
          refine (num_any l 2 _ (by omega) HL63.out).mono ?_
          rintro e w3 ⟨rfl, hb⟩
          exact ⟨_, rfl, HK.out _ _ (.inl hb) (by show _ = _; rw [HP2.out])⟩
        · intro ev w' hC hc hf hb hr K hK
          have e63 := hr 4 _ rfl (by kernel_rfl)
          change ev (.tmp 63) = _ at e63
          have HK := Lib.hid hK
          have HC := Lib.hid hC
          clear hb hr hK hC hf
          unfold Run
          simp [execOp, Upon, go_sem, *]
          exact HK.out _ _ (.inl (Below.refl _ _)) (by show Value.int _ _ = Value.int _ _; congr 1; first | done | exact HU2.out)
        · intro ev w' hC hc hf hb hr K hK
          have e0 : ev (.tmp 0) = _ := hb 0 (by kernel_rfl)
          have HK := Lib.hid hK
          have HC := Lib.hid hC
          clear hb hr hK hC hf
          unfold Run
          simp [execOp, Upon, go_sem, *]
          exact HK.out _ _ (.inl (Below.refl _ _)) rfl
        · intro ev w' hC hc hf hb hr K hK
          have e65 := hr 6 _ rfl (by kernel_rfl)
          change ev (.tmp 65) = _ at e65
          have HK := Lib.hid hK
          have HC := Lib.hid hC
          clear hb hr hK hC
          unfold Run
          simp [execOp, Upon, go_sem, *]
          refine (rnum_any l 4 _ (by omega) HL63.out).mono ?_
          rintro e w3 ⟨rfl, hb⟩
          exact ⟨_, rfl, HK.out _ _ (.inl hb) (by show _ = _; rw [HP4.out])⟩
        · intro ev w' hC hc hf hb hr K hK
          have e0 : ev (.tmp 0) = _ := hb 0 (by kernel_rfl)
          have HK := Lib.hid hK
          have HC := Lib.hid hC
          clear hb hr hK hC hf
          unfold Run
          simp [execOp, Upon, go_sem, *]
          exact HK.out _ _ (.inl (Below.refl _ _)) rfl
        · intro ev w' hC hc hf hb hr K hK
          have e67 := hr 8 _ rfl (by kernel_rfl)
          change ev (.tmp 67) = _ at e67
          have HK := Lib.hid hK
          have HC := Lib.hid hC
          clear hb hr hK hC
          unfold Run
          simp [execOp, Upon, go_sem, *]
          refine (rnum_any l 8 _ (by omega) HL63.out).mono ?_
          rintro e w3 ⟨rfl, hb⟩
          exact ⟨_, rfl, HK.out _ _ (.inl hb) (by show _ = _; rw [HP8.out])⟩
        · intro ev w' hC hc hf hb hr K hK
          have e0 : ev (.tmp 0) = _ := hb 0 (by kernel_rfl)
          have HK := Lib.hid hK
          have HC := Lib.hid hC
          clear hb hr hK hC hf
          unfold Run
          simp [execOp, Upon, go_sem, *]
          exact HK.out _ _ (.inl (Below.refl _ _)) rfl
        · intro ev w' hC hc hf hb hr K hK
          have e69 := hr 10 _ rfl (by kernel_rfl)
          change ev (.tmp 69) = _ at e69
          have HK := Lib.hid hK
          have HC := Lib.hid hC
          clear hb hr hK hC hf
          unfold Run
          simp [execOp, Upon, go_sem, *]
          exact HK.out _ _ (.inl (Below.refl _ _)) rfl
        · intro ev w' hC hc hf hb hr K hK
          have e70 := hr 11 _ rfl (by kernel_rfl)
          change ev (.tmp 70) = _ at e70
          have HK := Lib.hid hK
          have HC := Lib.hid hC
          clear hb hr hK hC hf
          unfold Run
          simp [execOp, Upon, go_sem, *]
          exact HK.out _ _ (.inl (Below.refl _ _)) (by show Value.int _ _ = Value.int _ _; congr 1; first | done | exact HF8.out)
        · intro ev w' hC hc hf hb hr K hK
          have e0 : ev (.tmp 0) = _ := hb 0 (by kernel_rfl)
          have HK := Lib.hid hK
          have HC := Lib.hid hC
          clear hb hr hK hC hf
          unfold Run
          simp [execOp, Upon, go_sem, *]
          exact HK.out _ _ (.inl (Below.refl _ _)) rfl
        · intro ev w' hC hc hf hb hr K hK
          have e72 := hr 13 _ rfl (by kernel_rfl)
          change ev (.tmp 72) = _ at e72
          have HK := Lib.hid hK
          have HC := Lib.hid hC
          clear hb hr hK hC
          unfold Run
          simp [execOp, Upon, go_sem, *]
          refine (num_any l 14 _ (by omega) HL63.out).mono ?_
          rintro e w3 ⟨rfl, hb⟩
          exact ⟨_, rfl, HK.out _ _ (.inl hb) (by show _ = _; rw [HP14.out])⟩
        · intro ev w' hC hc hf hb hr K hK
          have e73 := hr 14 _ rfl (by kernel_rfl)
          change ev (.tmp 73) = _ at e73
          have HK := Lib.hid hK
          have HC := Lib.hid hC
          clear hb hr hK hC hf
          unfold Run
          simp [execOp, Upon, go_sem, *]
          exact HK.out _ _ (.inl (Below.refl _ _)) (by show Value.int _ _ = Value.int _ _; congr 1; first | done | exact HU14.out)
        · intro ev w' hC hc hf hb hr K hK
          have e10 : ev (.tmp 10) = _ := hb 10 (by kernel_rfl)
          have HK := Lib.hid hK
          have HC := Lib.hid hC
          clear hb hr hK hC hf
          unfold Run
          simp [execOp, Upon, go_sem, *]
          exact HK.out _ _ (.inl (Below.refl _ _)) rfl
        · intro ev w' hC hc hf hb hr K hK
          have e0 : ev (.tmp 0) = _ := hb 0 (by kernel_rfl)
          have HK := Lib.hid hK
          have HC := Lib.hid hC
          clear hb hr hK hC hf
          unfold Run
          simp [execOp, Upon, go_sem, *]
          exact HK.out _ _ (.inl (Below.refl _ _)) rfl
        · intro ev w' hC hc hf hb hr K hK
          have e9 : ev (.tmp 9) = _ := hb 9 (by kernel_rfl)
          have HK := Lib.hid hK
          have HC := Lib.hid hC
          clear hb hr hK hC hf
          unfold Run
          simp [execOp, Upon, go_sem, *]
          exact HK.out _ _ (.inl (Below.refl _ _)) rfl
        · intro ev w' hC hc hf hb hr K hK
          have e76 := hr 17 _ rfl (by kernel_rfl)
          have e77 := hr 18 _ rfl (by kernel_rfl)
          change ev (.tmp 76) = _ at e76
          change ev (.tmp 77) = _ at e77
          have HK := Lib.hid hK
          have HC := Lib.hid hC
          clear hb hr hK hC hf
          unfold Run
          simp [execOp, Upon, go_sem, *]
          exact HK.out _ _ (.inl (Below.refl _ _)) (by show Value.string _ = Value.string _; congr 1; first | done | exact HEX.out)
        · intro ev w' hC hc hf hb hr K hK
          have e78 := hr 19 _ rfl (by kernel_rfl)
          change ev (.tmp 78) = _ at e78
          have HK := Lib.hid hK
          have HC := Lib.hid hC
          clear hb hr hK hC hf
          have kb := run_bytes w' data data.length rfl
          have HCAP := Lib.hid (cap_ok w' data.length HDL.out)
          unfold Run
          simp [execOp, Upon, go_sem, *]
          exact HK.out _ _ (.inl (bw_below (Below.refl _ _) (Nat.le_refl _) _)) ⟨_, _, rfl, ((bw_rd w' data).wide HC.out.size (by rw [bw_size]; exact Nat.le_refl _)), (fun h => by cases h), HCAP.out⟩
        · intro ev w' hC hc hf hb hr K hK
          have e61 := hr 2 _ rfl (by kernel_rfl)
          have e64 := hr 5 _ rfl (by kernel_rfl)
          have e66 := hr 7 _ rfl (by kernel_rfl)
          have e68 := hr 9 _ rfl (by kernel_rfl)
          have e71 := hr 12 _ rfl (by kernel_rfl)
          have e74 := hr 15 _ rfl (by kernel_rfl)
          have e75 := hr 16 _ rfl (by kernel_rfl)
          have e79 := hr 20 _ rfl (by kernel_rfl)
          change ev (.tmp 61) = _ at e61
          change ev (.tmp 64) = _ at e64
          change ev (.tmp 66) = _ at e66
          change ev (.tmp 68) = _ at e68
          change ev (.tmp 71) = _ at e71
          change ev (.tmp 74) = _ at e74
          change ev (.tmp 75) = _ at e75
          change (Fresh w5.heap.size data : Pred) (ev (.tmp 79)) _ at e79
          have HK := Lib.hid hK
          have HC := Lib.hid hC
          clear hb hr hK hC hf
          obtain ⟨A7, c7, q7, r7⟩ := e79
          have R7 := Lib.hid r7
          clear r7
          unfold Run
          simp [execOp, Upon, go_sem, *]
          exact HK.out _ _ (.inl (Below.refl _ _)) ⟨A7, c7, rfl, R7.out⟩
        · intro ev w' hC hc hf hb hr K hK
          have e6 : ev (.tmp 6) = _ := hb 6 (by kernel_rfl)
          have e80 := hr 21 _ rfl (by kernel_rfl)
          change (SgV w5.heap.size ⟨p0, p2, p4, p8, fl, p14, m, data⟩ : Pred) (ev (.tmp 80)) _ at e80
          have HK := Lib.hid hK
          have HC := Lib.hid hC
          clear hb hr hK hC hf
          obtain ⟨A7, c7, q7, r7⟩ := e80
          obtain ⟨old, hold, hsz⟩ := HC.out.shape (w.heap.size + 2) _ _ _ HGG.out
          have hst := run_storeVar_row (P := Try.prog) w' (w.heap.size + 2) 26 26 old #[.int .u16 (p0 : Int), .int .u16 (p2 : Int), .int .u32 (p4 : Int), .int .u32 (p8 : Int), .int .u8 (fl.toNat : Int), .int .u16 (p14 : Int), .int .u16 ((m : Nat) : Int), .slice A7 data.length c7] hold (by kernel_rfl) (by rw [hsz]; rfl) (by kernel_rfl)
          unfold Run
          rw [run_storeE 26 _ _ rfl e6 q7 hst]
          refine HK.out _ _ (.inr ⟨Gro.setRow hold _ (by rw [hsz]; rfl), fun j hj u hr => rl_st (g := w.heap.size + 2) (i := 22) 0 (by exact ⟨.inr (is_st _ _), .inr (is_st _ _), .inr (is_st _ _), .inr (is_st _ _), .inr (is_st _ _), .inr (is_st _ _), .inr (is_st _ _), .inr (is_st _ _), .inr (is_st _ _), .inr (is_st _ _), .inr (is_st _ _), .inr (is_st _ _), .inr (is_st _ _), .inr (is_st _ _), .inr (is_st _ _), .inr (is_st _ _), .inr (is_st _ _), .inr (is_st _ _), .inr (is_st _ _), .inr (is_st _ _), .inr (fresh_st HGB.out _), .inr (sgV_st HGB.out _), .inl rfl, .inr (is_st _ _), trivial⟩) j u _ _ (by omega) (Gro.setRow hold _ (by rw [hsz]; rfl)) hr⟩) ⟨A7, c7, setRow_heap _ _ _ _ _ _ hold, ?_⟩
          exact r7.setRow HGB.out _
        · intro ev w' hC hc hf hb hr K hK
          have HK := Lib.hid hK
          have HC := Lib.hid hC
          clear hb hr hK hC hf
          unfold Run
          simp [execOp, Upon, go_sem, *]
          exact HK.out _ _ (.inl (Below.refl _ _)) rfl
      · exact rl_mono ⟨is_mono _, is_mono _, is_mono _, is_mono _, is_mono _, is_mono _, is_mono _, is_mono _, is_mono _, is_mono _, is_mono _, is_mono _, is_mono _, is_mono _, is_mono _, is_mono _, is_mono _, is_mono _, is_mono _, is_mono _, fresh_mono _ _, sgV_mono _ _, sgS_mono _ _ _, is_mono _, trivial⟩
      intro us wr hG hH
      obtain ⟨-, -, -, -, -, -, -, -, -, -, -, -, -, -, -, -, -, -, -, -, -, -, h22, h23, -⟩ := hH
      simp only [fillM]
      change (SgS w5.heap.size (w.heap.size + 2) ⟨p0, p2, p4, p8, fl, p14, m, data⟩ : Pred) undef wr at h22
      change us 7 = _ at h23
      rw [h23]
      clear h23
      generalize us 59 = v59
      generalize us 60 = v60
      generalize us 61 = v61
      generalize us 62 = v62
      generalize us 63 = v63
      generalize us 64 = v64
      generalize us 65 = v65
      generalize us 66 = v66
      generalize us 67 = v67
      generalize us 68 = v68
      generalize us 69 = v69
      generalize us 70 = v70
      generalize us 71 = v71
      generalize us 72 = v72
      generalize us 73 = v73
      generalize us 74 = v74
      generalize us 75 = v75
      generalize us 76 = v76
      generalize us 77 = v77
      generalize us 78 = v78
      generalize us 79 = v79
      generalize us 80 = v80
      obtain ⟨A7, c7, hgp, hbk⟩ := h22
      have HGP := Lib.hid hgp
      have HBK := Lib.hid hbk
      have HBF : Hid (Below w.heap.size w wr) := HB5.out.trans (hG.below (fun k hk => by omega) HB5.out.size)
      clear hgp hbk hG z12 z13
      go_wp2_with fail
      (try simp only [Exit.inBlock, Exit.then])
      refine ret_row (g := w.heap.size + 2) rfl rfl (load_sg HGP.out rfl) rfl ?_
      rw [HE5.out, HSG.out]
      exact ⟨_, rfl, ⟨A7, c7, rfl, ⟨HOKX.out.1, HOKX.out.2.1, HOKX.out.2.2.1, HOKX.out.2.2.2.1, HOKX.out.2.2.2.2, hmm⟩, HBK.out.1.wide (Nat.le_trans (by omega) (Nat.le_of_lt HGB.out)) (Nat.le_refl _), HBK.out.2.2.1, HBK.out.2.2.2, HBK.out.2.1⟩, HBF.out⟩
end Go.Proofs.Ytjgdmkmfnkaoaaa
