/-
  ip4.Parse(b): ErrCut of fewer than 20 bytes, ErrForm, ErrCut, ErrSum, else the packet of the bytes, its data in a row of the call's own. Every slice of bytes that can be read.
-/
import Derived.Test.YtjgdmkmfnkaoaaaVPv
import Derived.StillTailTactics
import Derived.Laws.CopyOwn
namespace Go.Proofs.Ytjgdmkmfnkaoaaa.V
open Go.RowKit

/-- what Parse leaves -/
def ParsePost (w : World) (r : Pk × Int) (e : Ending) (w' : World) : Prop :=
  ∃ cs, e = .returned (.tuple #[.agg cs, .int .i64 r.2]) ∧ PkV w' w.heap.size w'.heap.size cs r.1 ∧ Below w.heap.size w w'
theorem ret_row {P : Program} {fn : Func} {R : Ending → World → Prop} {a : Act} {w : World} {p u : Tmp} {ty : TypeId} {g : Nat} {cs : Array Value} (h : fn.results = #[.cell p ty, .tmp u]) (hp : a.tmps.getD p undef = .pointer (some ⟨g, 0, none⟩))
    (hl : (loadVar ty ⟨g, 0, none⟩).run P w = .ok (.agg cs) w) (hdf : a.defers = []) (hR : R (.returned (.tuple #[.agg cs, a.tmps.getD u undef])) w) : bodyPost P fn R .ret a w := by
  refine bodyPost_ret (v := .tuple #[.agg cs, a.tmps.getD u undef]) ?_ hdf hR
  rw [results_cell_tmp h, hp]
  simp only [asAddr, Sem.run_pure, Result.andThen]
  rw [hl]
theorem load_pk {w : World} {g : Nat} {t : TypeId} {cs : Array Value} (hg : w.heap[g]? = some (.cells cs t (0, 0))) (hs : cs.size = 14) : (loadVar 60 ⟨g, 0, none⟩).run Try.prog w = .ok (.agg cs) w :=
  run_loadVar_row w g t 60 cs (0, 0) _ hg Try.underlying60 rfl (by rw [hs]; kernel_rfl)
/-- a slice as an array: its head -/
theorem run_array {P : Program} (t e : TypeId) (n len : Nat) (A : Option Addr) (c : Nat) (w : World) (ht : P.underlying t = some (.array n e)) (h : n ≤ len) : (Instr.arrayAt t (.slice A len c)).run P w = .ok (.pointer A) w := by
  have h' : ¬ len < n := by omega
  simp [Instr.arrayAt, run_underlying ht, h']
theorem arr_ip (A : Option Addr) (c : Nat) (w : World) : (Instr.arrayAt 28 (.slice A 4 c)).run Try.prog w = .ok (.pointer A) w := run_array _ _ 4 4 A c w Try.underlying28 (Nat.le_refl _)

theorem add_pos (ad : Addr) (k : Nat) (h : 0 < k) : ad.add k = ⟨ad.block, ad.off + k, none⟩ := by
  unfold Addr.add
  rw [if_neg (by omega)]
theorem loads_at {w : World} {lo hi : Nat} {ad : Addr} {l xs : List UInt8} (h : Rd w lo hi (some ad) (cells l)) (k : Nat) (hk : 0 < k) (hx : (l.drop k).take 4 = xs) : ∀ j v, (cells xs)[j]? = some v → w.cell? ((⟨ad.block, ad.off + k, none⟩ : Addr).add j) = some v := by
  intro j v hv
  have h2 := (h.drop k).take 4
  rw [cells_drop, cells_take, hx] at h2
  obtain ⟨a', e, _, _, hc⟩ := h2 j v hv
  rw [Option.map_some, add_pos ad k hk] at e
  cases e
  exact hc
theorem byte_at {w : World} {lo hi : Nat} {ad : Addr} {l : List UInt8} {x : UInt8} (h : Rd w lo hi (some ad) (cells l)) (k : Nat) (hk : 0 < k) (hx : l[k]? = some x) : w.cell? ⟨ad.block, ad.off + k, none⟩ = some (.int .u8 (x.toNat : Int)) := by
  have hl := (List.getElem?_eq_some_iff.1 hx).1
  obtain ⟨a', e, hc⟩ := h.byte hl
  cases e
  rw [add_pos ad k hk] at hc
  rw [hc, (List.getElem?_eq_some_iff.1 hx).2]
theorem byte_0 {w : World} {lo hi : Nat} {ad : Addr} {l : List UInt8} {x : UInt8} (h : Rd w lo hi (some ad) (cells l)) (hx : l[0]? = some x) : w.cell? ad = some (.int .u8 (x.toNat : Int)) := by
  have hl := (List.getElem?_eq_some_iff.1 hx).1
  obtain ⟨a', e, hc⟩ := h.byte hl
  cases e
  have : ad.add 0 = ad := by unfold Addr.add; simp
  rw [this] at hc
  rw [hc, (List.getElem?_eq_some_iff.1 hx).2]

/-- what is known of bytes in a row of the call's own -/
def Bk (w : World) (B : Nat) (A : Option Addr) (c : Nat) (l : List UInt8) : Prop := Rd w B w.heap.size A (cells l) ∧ (A = none → c = 0) ∧ l.length ≤ c ∧ c ≤ maxLen
theorem Bk.setRow {w : World} {B c g : Nat} {A : Option Addr} {l : List UInt8} (h : Bk w B A c l) (hg : g < B) (cs : Array Value) : Bk (w.setRow g cs) B A c l := by
  obtain ⟨h1, h2⟩ := h
  refine ⟨(h1.keep (w' := w.setRow g cs) fun p hp _ => World.cell?_of_block (setRow_other w g _ _ (by omega))).wide (Nat.le_refl _) (by simp), h2⟩
theorem Bk.grow {w w' : World} {B c : Nat} {A : Option Addr} {l : List UInt8} (h : Bk w B A c l) (hb : Below w.heap.size w w') : Bk w' B A c l := by
  obtain ⟨h1, h2⟩ := h
  exact ⟨(h1.below hb (Nat.le_refl _)).wide (Nat.le_refl _) hb.size, h2⟩
theorem Bk.gro {w w' : World} {B c g : Nat} {A : Option Addr} {l : List UInt8} (h : Bk w B A c l) (hg : g < B) (hb : Gro (· = g) w w') : Bk w' B A c l := by
  obtain ⟨h1, h2⟩ := h
  exact ⟨(h1.keep (w' := w') fun p hp hq => World.cell?_of_block (hb.block p.block hq (by omega))).wide (Nat.le_refl _) hb.size, h2⟩
theorem fresh_st {g B : Nat} (hg : g < B) (l : List UInt8) : Stable g (Fresh B l) := fun _ _ _ hb h => by
  obtain ⟨A, c, e, h1⟩ := h
  exact ⟨A, c, e, Bk.gro h1 hg hb⟩
theorem sub_of {w : World} {hi : Nat} {ad : Addr} {l data : List UInt8} (h : Rd w 0 hi (some ad) (cells l)) (hd al : Nat) (hx : (l.take al).drop hd = data) : Rd w 0 hi (some (ad.add hd)) (cells data) := by
  have h2 := (h.take al).drop hd
  rw [cells_take, cells_drop, hx] at h2
  exact h2
/-- a piece of what came in -/
def Sub (g : Nat) (l : List UInt8) : Pred := fun v w => ∃ a c, v = .slice (some a) l.length c ∧ g ≤ w.heap.size ∧ Rd w 0 g (some a) (cells l)
theorem sub_mono (g : Nat) (l : List UInt8) : Mono (Sub g l) := fun _ _ _ hb h => by
  obtain ⟨a, c, e, h1, h2⟩ := h
  exact ⟨a, c, e, Nat.le_trans h1 hb.size, h2.below hb h1⟩
theorem sub_st (g : Nat) (l : List UInt8) : Stable g (Sub g l) := fun _ _ _ hb h => by
  obtain ⟨a, c, e, h1, h2⟩ := h
  exact ⟨a, c, e, Nat.le_trans h1 hb.size, h2.keep fun p _ hq => World.cell?_of_block (hb.block p.block (by omega) (by omega))⟩
/-- a packet's value, its data in a row of the call's own -/
def PktV (B : Nat) (p : Pk) : Pred := fun v w => ∃ A c, v = .agg (pkC p (.slice A p.data.length c)).toArray ∧ Bk w B A c p.data
theorem pktv_mono (B : Nat) (p : Pk) : Mono (PktV B p) := fun _ _ _ hb h => by
  obtain ⟨A, c, e, h1⟩ := h
  exact ⟨A, c, e, h1.grow hb⟩
theorem pktv_st {g B : Nat} (hg : g < B) (p : Pk) : Stable g (PktV B p) := fun _ _ _ hb h => by
  obtain ⟨A, c, e, h1⟩ := h
  exact ⟨A, c, e, h1.gro hg hb⟩
/-- a packet's value in block g -/
def StV (B g : Nat) (p : Pk) : Pred := fun _ w => ∃ A c, w.heap[g]? = some (.cells (pkC p (.slice A p.data.length c)).toArray 60 (0, 0)) ∧ Bk w B A c p.data
theorem stv_mono (B g : Nat) (p : Pk) : Mono (StV B g p) := fun _ _ _ hb h => by
  obtain ⟨A, c, e, h1⟩ := h
  exact ⟨A, c, (hb.block g (row_lt e)).trans e, h1.grow hb⟩

set_option maxRecDepth 100000 in
set_option maxHeartbeats 1000000 in
theorem parse_short (A : Option Addr) (l : List UInt8) (c : Nat) (w : World) (hl : l.length < 20) : Calls Try.prog 25 #[.slice A l.length c] w (ParsePost w (parseP l)) := by
  have HE : Hid (parseP l = (Pk.zero, 6)) := by show _ = _; unfold parseP; rw [if_pos hl]
  have HB := Lib.hid ((Below.refl w.heap.size w).alloc (Nat.le_refl _) (.cells #[.int .u16 0, .bool false, .int .i64 0, .int .u8 0, .int .u8 0, .int .u8 0, .int .u8 0, .int .u8 0, .int .u8 0, .int .u8 0, .int .u8 0, .int .u8 0, .int .u8 0, .slice none 0 0] 60))
  have HG := Lib.hid (heap_alloc_new w (.cells #[.int .u16 0, .bool false, .int .i64 0, .int .u8 0, .int .u8 0, .int .u8 0, .int .u8 0, .int .u8 0, .int .u8 0, .int .u8 0, .int .u8 0, .int .u8 0, .int .u8 0, .slice none 0 0] 60))
  generalize l.length = n at hl ⊢
  go_enter Try.func25, Try.ntmps25
  go_wp2
  refine ret_row (g := w.heap.size) (cs := #[.int .u16 0, .bool false, .int .i64 0, .int .u8 0, .int .u8 0, .int .u8 0, .int .u8 0, .int .u8 0, .int .u8 0, .int .u8 0, .int .u8 0, .int .u8 0, .int .u8 0, .slice none 0 0]) rfl rfl (load_pk HG.out rfl) rfl ?_
  rw [HE.out]
  exact ⟨_, rfl, zero_pkV _ _ _, HB.out⟩

theorem and_15 (x : Nat) (h : x < 256) : bits .and .u8 (x : Int) 15 = ((x % 16 : Nat) : Int) := by
  have := u8_and_nat x 15 h (by omega)
  rw [nat_mask4] at this
  exact this
theorem and_8191 (x : Nat) (h : x < 65536) : bits .and .u16 (x : Int) 8191 = ((x % 8192 : Nat) : Int) := by
  have := u16_and_nat x 8191 h (by omega)
  rw [nat_mask13] at this
  exact this
theorem and_8192 (x : Nat) (h : x < 65536) : bits .and .u16 (x : Int) 8192 = ((x / 8192 % 2 * 8192 : Nat) : Int) := by
  have := u16_and_nat x 8192 h (by omega)
  rw [nat_bit 13 x] at this
  exact this

set_option maxRecDepth 100000 in
set_option maxHeartbeats 8000000 in
theorem parse_go (ad : Addr) (l : List UInt8) (c : Nat) (w : World) (h : Rd w 0 w.heap.size (some ad) (cells l)) (h20 : 20 ≤ l.length) (hc : l.length ≤ c) (hl : l.length ≤ 100000) (hm : c ≤ maxLen) :
    Calls Try.prog 25 #[.slice (some ad) l.length c] w (ParsePost w (parseP l)) := by
  unfold maxLen at hm
  obtain ⟨x, hx⟩ : ∃ x, l[0]? = some x := ⟨l[0]'(by omega), List.getElem?_eq_getElem _⟩
  have hxl := x.toNat_lt
  have hx0 : l.getD 0 0 = x := by rw [List.getD_eq_getElem?_getD, hx]; rfl
  have HX := Lib.hid hx
  obtain ⟨h0, hh0⟩ : ∃ h0, x.toNat % 16 = h0 := ⟨_, rfl⟩
  obtain ⟨hd, hhd⟩ : ∃ hd, headOf l = hd := ⟨_, rfl⟩
  have hd4 : hd = 4 * h0 := by rw [← hhd, ← hh0]; unfold headOf; rw [hx0]
  have a15 := and_15 x.toNat hxl
  rw [hh0] at a15
  have h015 : h0 ≤ 15 := by omega
  obtain ⟨al, hal⟩ : ∃ al, numAt l 2 = al := ⟨_, rfl⟩
  obtain ⟨pl, hpl⟩ : ∃ pl, numAt l 6 = pl := ⟨_, rfl⟩
  have hall : al < 65536 := by rw [← hal]; exact numAt_lt l 2
  have hpll : pl < 65536 := by rw [← hpl]; exact numAt_lt l 6
  have HAL := Lib.hid hal
  have HPL := Lib.hid hpl
  have HHD := Lib.hid hhd
  have HPZ : Hid (parseP l = if x.toNat / 16 ≠ 4 ∨ hd < 20 ∨ al < hd then (Pk.zero, 7) else if l.length < al then (Pk.zero, 6) else if sumL (l.take hd) ≠ 65535 then (Pk.zero, 8) else (pkOf l, 0)) := by
    show _ = _
    unfold parseP
    rw [if_neg (by omega), hx0, hhd, hal]
  have HR := Lib.hid h
  have c0 := byte_0 h hx
  have hlt := cell_lt c0
  have h4 : (4 : Int) * (h0 : Int) = (hd : Int) := by omega
  have hw1 : (x.toNat : Int) / 16 ≤ 15 := by omega
  obtain ⟨n, hn⟩ : ∃ n, l.length = n := ⟨_, rfl⟩
  rw [hn] at h20 hc hl HPZ ⊢
  have HN := Lib.hid hn
  have HL63 : Hid (l.length ≤ maxLen) := by show _ ≤ _; rw [hn]; unfold maxLen; omega
  have HWD : Hid (∀ (k : Nat) (w' : World), k + 1 < n → Rd w' 0 w.heap.size (some ad) (cells l) → Calls Try.prog 52 #[.slice (some ad) n c, .int .i64 (k : Int)] w' fun e w'' => e = .returned (.int .u16 (numAt l k : Nat)) ∧ Below w'.heap.size w' w'') := fun k w' hk hr => by
    have := word_any (some ad) l k c 0 w.heap.size w' hr (by rw [HN.out]; exact hk) HL63.out
    rw [HN.out] at this
    exact this
  have HB1 := Lib.hid ((Below.refl w.heap.size w).alloc (Nat.le_refl _) (.cells #[.int .u16 0, .bool false, .int .i64 0, .int .u8 0, .int .u8 0, .int .u8 0, .int .u8 0, .int .u8 0, .int .u8 0, .int .u8 0, .int .u8 0, .int .u8 0, .int .u8 0, .slice none 0 0] 60))
  have HG1 := Lib.hid (heap_alloc_new w (.cells #[.int .u16 0, .bool false, .int .i64 0, .int .u8 0, .int .u8 0, .int .u8 0, .int .u8 0, .int .u8 0, .int .u8 0, .int .u8 0, .int .u8 0, .int .u8 0, .int .u8 0, .slice none 0 0] 60))
  have HR1 := Lib.hid (h.alloc (Nat.le_refl _) (.cells #[.int .u16 0, .bool false, .int .i64 0, .int .u8 0, .int .u8 0, .int .u8 0, .int .u8 0, .int .u8 0, .int .u8 0, .int .u8 0, .int .u8 0, .int .u8 0, .int .u8 0, .slice none 0 0] 60))
  have hd60 : hd ≤ 60 := by omega
  clear h hx hx0 hh0 hhd hd4 hal hpl hn
  go_enter Try.func25, Try.ntmps25
  go_wp2_with fail
  refine (HWD.out 2 _ (by omega) HR1.out).mono ?_
  rintro e w2 ⟨rfl, hb2⟩
  rw [HAL.out]
  have HB2 : Hid (Below w.heap.size w w2) := HB1.out.trans (hb2.mono HB1.out.size)
  have HG2 := Lib.hid ((hb2.block _ (by simp)).trans HG1.out)
  have HR2 := Lib.hid (HR1.out.below hb2 (by simp))
  have c02 := byte_0 HR2.out HX.out
  clear c0 hlt hb2 HB1 HG1 HR1 a15
  by_cases q1 : x.toNat / 16 = 4
  · have v1 : ((x.toNat : Int) / 16 != 4) = false := bneF (by omega)
    by_cases q2 : hd < 20
    · have HE : Hid (parseP l = (Pk.zero, 7)) := by show _ = _; rw [HPZ.out, if_pos (.inr (.inl q2))]
      have v2 : (hd : Int) < 20 := by omega
      clear q1 q2
      go_wp2_with (refine wpList_store_row rfl 60 _ _ rfl w.heap.size #[.int .u16 0, .bool false, .int .i64 0, .int .u8 0, .int .u8 0, .int .u8 0, .int .u8 0, .int .u8 0, .int .u8 0, .int .u8 0, .int .u8 0, .int .u8 0, .int .u8 0, .slice none 0 0] rfl rfl _ _ HG2.out (by kernel_rfl) rfl (by kernel_rfl) ?_)
      (try simp only [Exit.inBlock, Exit.then])
      refine ret_row (g := w.heap.size) (cs := #[.int .u16 0, .bool false, .int .i64 0, .int .u8 0, .int .u8 0, .int .u8 0, .int .u8 0, .int .u8 0, .int .u8 0, .int .u8 0, .int .u8 0, .int .u8 0, .int .u8 0, .slice none 0 0]) rfl rfl (load_pk (setRow_heap w2 _ _ _ _ _ HG2.out) rfl) rfl ?_
      rw [HE.out]
      exact ⟨_, rfl, zero_pkV _ _ _, below_setRow HB2.out (Nat.le_refl _) _⟩
    · have v2 : 20 ≤ (hd : Int) := by omega
      by_cases q3 : al < hd
      · have HE : Hid (parseP l = (Pk.zero, 7)) := by show _ = _; rw [HPZ.out, if_pos (.inr (.inr q3))]
        have v3 : (al : Int) < (hd : Int) := by omega
        clear q1 q2 q3
        go_wp2_with (refine wpList_store_row rfl 60 _ _ rfl w.heap.size #[.int .u16 0, .bool false, .int .i64 0, .int .u8 0, .int .u8 0, .int .u8 0, .int .u8 0, .int .u8 0, .int .u8 0, .int .u8 0, .int .u8 0, .int .u8 0, .int .u8 0, .slice none 0 0] rfl rfl _ _ HG2.out (by kernel_rfl) rfl (by kernel_rfl) ?_)
        (try simp only [Exit.inBlock, Exit.then])
        refine ret_row (g := w.heap.size) (cs := #[.int .u16 0, .bool false, .int .i64 0, .int .u8 0, .int .u8 0, .int .u8 0, .int .u8 0, .int .u8 0, .int .u8 0, .int .u8 0, .int .u8 0, .int .u8 0, .int .u8 0, .slice none 0 0]) rfl rfl (load_pk (setRow_heap w2 _ _ _ _ _ HG2.out) rfl) rfl ?_
        rw [HE.out]
        exact ⟨_, rfl, zero_pkV _ _ _, below_setRow HB2.out (Nat.le_refl _) _⟩
      · have v3 : (hd : Int) ≤ (al : Int) := by omega
        have HPZ2 := Lib.hid (HPZ.out.trans (if_neg (by omega)))
        by_cases q4 : n < al
        · have HE : Hid (parseP l = (Pk.zero, 6)) := by show _ = _; rw [HPZ2.out, if_pos q4]
          have v4 : (n : Int) < (al : Int) := by omega
          clear q1 q2 q3 q4
          go_wp2_with (refine wpList_store_row rfl 60 _ _ rfl w.heap.size #[.int .u16 0, .bool false, .int .i64 0, .int .u8 0, .int .u8 0, .int .u8 0, .int .u8 0, .int .u8 0, .int .u8 0, .int .u8 0, .int .u8 0, .int .u8 0, .int .u8 0, .slice none 0 0] rfl rfl _ _ HG2.out (by kernel_rfl) rfl (by kernel_rfl) ?_)
          (try simp only [Exit.inBlock, Exit.then])
          refine ret_row (g := w.heap.size) (cs := #[.int .u16 0, .bool false, .int .i64 0, .int .u8 0, .int .u8 0, .int .u8 0, .int .u8 0, .int .u8 0, .int .u8 0, .int .u8 0, .int .u8 0, .int .u8 0, .int .u8 0, .slice none 0 0]) rfl rfl (load_pk (setRow_heap w2 _ _ _ _ _ HG2.out) rfl) rfl ?_
          rw [HE.out]
          exact ⟨_, rfl, zero_pkV _ _ _, below_setRow HB2.out (Nat.le_refl _) _⟩
        · have v4 : (al : Int) ≤ (n : Int) := by omega
          have HPZ3 := Lib.hid (HPZ2.out.trans (if_neg (by omega)))
          have v5 : (hd : Int) ≤ (c : Int) := by omega
          have hlen : (l.take hd).length = hd := by rw [List.length_take, HN.out]; omega
          have hr := right_any ⟨w2.heap.size, 0, none⟩ [.slice (some ad) (l.take hd).length c] [l.take hd] 1 w2.heap.size (w2.heap.size + 1) 0 w.heap.size 1 (l.take hd) (w2.alloc (.cells #[.slice (some ad) (l.take hd).length c] 24))
            (rd_new w2 [.slice (some ad) (l.take hd).length c] 24 (0, 0)) (pts_cons (by rw [← cells_take]; exact ((HR2.out.take hd).alloc HB2.out.size _)) rfl pts_nil) rfl (by decide) (by intro p hp; simp at hp; subst hp; unfold maxLen; rw [List.length_take]; omega) (by simp)
          rw [hlen] at hr
          have HRT := Lib.hid hr
          have hg3 := old_alloc HG2.out (.cells #[.slice (some ad) hd c] 24)
          have HG3 := Lib.hid hg3
          have HB3 := Lib.hid (HB2.out.alloc HB2.out.size (.cells #[.slice (some ad) hd c] 24))
          have HR3 := Lib.hid (HR2.out.alloc HB2.out.size (.cells #[.slice (some ad) hd c] 24))
          clear hr hg3 hlen q1 q2 q3 q4
          go_wp2_with fail
          refine HRT.out.mono ?_
          rintro e w3' ⟨rfl, rfl⟩
          clear HRT HB2 HG2 HR2 c02
          generalize w2.alloc (.cells #[.slice (some ad) hd c] 24) = w3 at HG3 HB3 HR3 ⊢
          by_cases q5 : sumL (l.take hd) = 65535
          · have HPZ4 : Hid (parseP l = (pkOf l, 0)) := HPZ3.out.trans (if_neg (by simp [q5]))
            rw [show (((sumL (l.take hd) : Nat) : Int) == 65535) = true from beqT (by omega)]
            clear q5
            go_wp2_with fail
            refine (HWD.out 6 w3 (by omega) HR3.out).mono ?_
            rintro e w4 ⟨rfl, hb4⟩
            rw [HPL.out]
            have HB4 : Hid (Below w.heap.size w w4) := HB3.out.trans (hb4.mono HB3.out.size)
            have hg4 := (hb4.block _ (row_lt HG3.out)).trans HG3.out
            have HGG := Lib.hid hg4
            have HGB : Hid (w.heap.size < w4.heap.size) := row_lt hg4
            have HR4 := Lib.hid (HR3.out.below hb4 HB3.out.size)
            clear hb4 hg4 HB3 HG3 HR3
            go_wp2_with fail
            obtain ⟨id, hid⟩ : ∃ id, numAt l 4 = id := ⟨_, rfl⟩
            have HID := Lib.hid hid
            obtain ⟨ttl, httl⟩ : ∃ y, l[8]? = some y := ⟨l[8]'(by have := HN.out; omega), List.getElem?_eq_getElem _⟩
            obtain ⟨proto, hproto⟩ : ∃ y, l[9]? = some y := ⟨l[9]'(by have := HN.out; omega), List.getElem?_eq_getElem _⟩
            have H8 := Lib.hid httl
            have H9 := Lib.hid hproto
            obtain ⟨s0, s1, s2, s3, hs4⟩ := four_of ((l.drop 12).take 4) (by have := HN.out; simp; omega)
            obtain ⟨d0, d1, d2, d3, hd4⟩ := four_of ((l.drop 16).take 4) (by have := HN.out; simp; omega)
            have HS4 := Lib.hid hs4
            have HD4 := Lib.hid hd4
            obtain ⟨data, hdata⟩ : ∃ data, (l.take al).drop hd = data := ⟨_, rfl⟩
            have HDA := Lib.hid hdata
            have hdl : data.length = al - hd := by rw [← hdata]; have := HN.out; simp; omega
            have HDL : Hid (data.length ≤ 1000000000) := by show _ ≤ _; omega
            have HDN := Lib.hid hdl
            obtain ⟨mr, hmr⟩ : ∃ mr, decide (pl / 8192 % 2 = 1) = mr := ⟨_, rfl⟩
            obtain ⟨off, hoff⟩ : ∃ off : Int, ((pl % 8192 * 8 : Nat) : Int) = off := ⟨_, rfl⟩
            have HPK : Hid (pkOf l = ⟨id, mr, off, ttl, proto, [s0, s1, s2, s3], [d0, d1, d2, d3], data⟩) := by
              show _ = _
              unfold pkOf
              rw [HID.out, HPL.out, HAL.out, HHD.out, hs4, hd4, hdata, hmr, hoff]
              simp [List.getD_eq_getElem?_getD, httl, hproto]
            have HOB : Hid (-9223372036854775808 ≤ off ∧ off ≤ 9223372036854775807) := by show _ ∧ _; omega
            have HIB : Hid (id < 65536) := by show _ < _; rw [← hid]; exact numAt_lt l 4
            have m82 := and_8192 pl hpll
            have m81 := and_8191 pl hpll
            have e8 : IntKind.i64.wrap ((pl % 8192 : Nat) : Int) = ((pl % 8192 : Nat) : Int) := IntWalk.i64_in _ ⟨by omega, by omega⟩
            have e88 : IntKind.i64.wrap (8 * ((pl % 8192 : Nat) : Int)) = off := by rw [IntWalk.i64_in _ ⟨by omega, by omega⟩]; omega
            obtain ⟨o8, ho8⟩ : ∃ o8, pl % 8192 = o8 := ⟨_, rfl⟩
            rw [ho8] at m81 e8 e88
            obtain ⟨M, hM⟩ : ∃ M, pl / 8192 % 2 * 8192 = M := ⟨_, rfl⟩
            rw [hM] at m82
            have HMR : Hid ((M ≠ 0) ↔ mr = true) := by
              show _ ↔ _
              rw [← hmr, ← hM]
              simp only [decide_eq_true_eq]
              omega
            have HRD : Hid (∀ w', Gro (· = w.heap.size) w4 w' → Rd w' 0 w.heap.size (some ad) (cells l)) := fun w' hg => HR4.out.keep fun p _ hp => World.cell?_of_block (hg.block _ (by have := HB4.out.size; omega) (by omega))
            have ha := arr_ip
            have i12 : (20 : Int) ≤ (c : Int) := by omega
            have i13 : c ≠ 12 := by omega
            have i14 : c ≠ 16 := by omega
            have i15 : (20 : Int) ≤ (n : Int) := by omega
            have i16 : (8 : Int) < (n : Int) := by omega
            have i17 : (9 : Int) < (n : Int) := by omega
            have i18 : (16 : Int) ≤ (c : Int) := by omega
            have j1 : al ≤ c := by omega
            have j2 : hd ≤ al := by omega
            clear hid httl hproto hs4 hd4 hdata hdl hmr hoff ho8 hM
            apply wp_region_rely (· = w.heap.size) (RL [Is _, Is (.int .u16 (id : Int)), Is _, Is _, Is (.bool mr), Is _, Is _, Is _, Is _, Is _, Is _, Is _, Is _, Is _, Is _, Is _, Is _, Is _, Is (.agg #[.int .u8 (s0.toNat : Int), .int .u8 (s1.toNat : Int), .int .u8 (s2.toNat : Int), .int .u8 (s3.toNat : Int)]), Is _, Is _, Is _, Is (.agg #[.int .u8 (d0.toNat : Int), .int .u8 (d1.toNat : Int), .int .u8 (d2.toNat : Int), .int .u8 (d3.toNat : Int)]), Is _, Is _, Is _, Sub w.heap.size data, Fresh w4.heap.size data, PktV w4.heap.size ⟨id, mr, off, ttl, proto, [s0, s1, s2, s3], [d0, d1, d2, d3], data⟩, StV w4.heap.size w.heap.size ⟨id, mr, off, ttl, proto, [s0, s1, s2, s3], [d0, d1, d2, d3], data⟩, Is (.int .i64 0)]) [false, false, false, true, false, false, false, false, false, false, false, false, false, false, false, false, false, false, false, false, false, false, false, false, false, false, false, false, false, false, false, false, false, false, false, false, false, false, false, false, false, false, false, false, false, false, false, false, false, true, true, true, true, true, true, true, true, true, true, true, true, true, true, true, true, true, true, true, true, true, true, true, true, true, true, true, true, true]
            · kernel_rfl
            · kernel_rfl
            · kernel_rfl
            · refine ⟨?_, ?_, ?_, ?_, ?_, ?_, ?_, ?_, ?_, ?_, ?_, ?_, ?_, ?_, ?_, ?_, ?_, ?_, ?_, ?_, ?_, ?_, ?_, ?_, ?_, ?_, ?_, ?_, ?_, ?_, ?_, trivial⟩
              · intro ev w' hC hc hf hb hr K hK
                have e0 : ev (.tmp 0) = _ := hb 0 (by kernel_rfl)
                have HK := Lib.hid hK
                have HC := Lib.hid hC
                clear hb hr hK hC hf
                unfold Run
                simp [execOp, Upon, go_sem, *]
                exact HK.out _ _ (.inl (Below.refl _ _)) rfl
              · intro ev w' hC hc hf hb hr K hK
                have e49 := hr 0 _ rfl (by kernel_rfl)
                change ev (.tmp 49) = _ at e49
                have HK := Lib.hid hK
                have HC := Lib.hid hC
                clear hb hr hK hC
                unfold Run
                simp [execOp, Upon, go_sem, *]
                refine (HWD.out 4 w' (by omega) (HRD.out w' HC.out)).mono ?_
                rintro e w2 ⟨rfl, hb⟩
                exact ⟨_, rfl, HK.out _ _ (.inl hb) (by show _ = _; rw [HID.out])⟩
              · intro ev w' hC hc hf hb hr K hK
                have e6 : ev (.tmp 6) = _ := hb 6 (by kernel_rfl)
                have HK := Lib.hid hK
                have HC := Lib.hid hC
                clear hb hr hK hC hf
                unfold Run
                simp [execOp, Upon, go_sem, *]
                exact HK.out _ _ (.inl (Below.refl _ _)) rfl
              · intro ev w' hC hc hf hb hr K hK
                have e51 := hr 2 _ rfl (by kernel_rfl)
                change ev (.tmp 51) = _ at e51
                have HK := Lib.hid hK
                have HC := Lib.hid hC
                clear hb hr hK hC hf
                unfold Run
                simp [execOp, Upon, go_sem, *]
                exact HK.out _ _ (.inl (Below.refl _ _)) rfl
              · intro ev w' hC hc hf hb hr K hK
                have e52 := hr 3 _ rfl (by kernel_rfl)
                change ev (.tmp 52) = _ at e52
                have HK := Lib.hid hK
                have HC := Lib.hid hC
                clear hb hr hK hC hf
                unfold Run
                simp [execOp, Upon, go_sem, *]
                exact HK.out _ _ (.inl (Below.refl _ _)) (by show Value.bool _ = Value.bool mr; congr 1; rw [Bool.eq_iff_iff, ← HMR.out]; simp)
              · intro ev w' hC hc hf hb hr K hK
                have e6 : ev (.tmp 6) = _ := hb 6 (by kernel_rfl)
                have HK := Lib.hid hK
                have HC := Lib.hid hC
                clear hb hr hK hC hf
                unfold Run
                simp [execOp, Upon, go_sem, *]
                exact HK.out _ _ (.inl (Below.refl _ _)) rfl
              · intro ev w' hC hc hf hb hr K hK
                have e54 := hr 5 _ rfl (by kernel_rfl)
                change ev (.tmp 54) = _ at e54
                have HK := Lib.hid hK
                have HC := Lib.hid hC
                clear hb hr hK hC hf
                unfold Run
                simp [execOp, Upon, go_sem, *]
                exact HK.out _ _ (.inl (Below.refl _ _)) rfl
              · intro ev w' hC hc hf hb hr K hK
                have e55 := hr 6 _ rfl (by kernel_rfl)
                change ev (.tmp 55) = _ at e55
                have HK := Lib.hid hK
                have HC := Lib.hid hC
                clear hb hr hK hC hf
                unfold Run
                simp [execOp, Upon, go_sem, *]
                exact HK.out _ _ (.inl (Below.refl _ _)) rfl
              · intro ev w' hC hc hf hb hr K hK
                have e56 := hr 7 _ rfl (by kernel_rfl)
                change ev (.tmp 56) = _ at e56
                have HK := Lib.hid hK
                have HC := Lib.hid hC
                clear hb hr hK hC hf
                unfold Run
                simp [execOp, Upon, go_sem, *]
                exact HK.out _ _ (.inl (Below.refl _ _)) rfl
              · intro ev w' hC hc hf hb hr K hK
                have e0 : ev (.tmp 0) = _ := hb 0 (by kernel_rfl)
                have HK := Lib.hid hK
                have HC := Lib.hid hC
                clear hb hr hK hC hf
                unfold Run
                simp [execOp, Upon, go_sem, *]
                exact HK.out _ _ (.inl (Below.refl _ _)) rfl
              · intro ev w' hC hc hf hb hr K hK
                have e58 := hr 9 _ rfl (by kernel_rfl)
                change ev (.tmp 58) = _ at e58
                have HK := Lib.hid hK
                have HC := Lib.hid hC
                clear hb hr hK hC hf
                unfold Run
                simp [execOp, Upon, go_sem, *]
                exact HK.out _ _ (.inl (Below.refl _ _)) rfl
              · intro ev w' hC hc hf hb hr K hK
                have e59 := hr 10 _ rfl (by kernel_rfl)
                change ev (.tmp 59) = _ at e59
                have HK := Lib.hid hK
                have HC := Lib.hid hC
                clear hb hr hK hC hf
                have c8 := byte_at (HRD.out w' HC.out) 8 (by omega) H8.out
                unfold Run
                simp [execOp, Upon, go_sem, *]
                exact HK.out _ _ (.inl (Below.refl _ _)) rfl
              · intro ev w' hC hc hf hb hr K hK
                have e0 : ev (.tmp 0) = _ := hb 0 (by kernel_rfl)
                have HK := Lib.hid hK
                have HC := Lib.hid hC
                clear hb hr hK hC hf
                unfold Run
                simp [execOp, Upon, go_sem, *]
                exact HK.out _ _ (.inl (Below.refl _ _)) rfl
              · intro ev w' hC hc hf hb hr K hK
                have e61 := hr 12 _ rfl (by kernel_rfl)
                change ev (.tmp 61) = _ at e61
                have HK := Lib.hid hK
                have HC := Lib.hid hC
                clear hb hr hK hC hf
                unfold Run
                simp [execOp, Upon, go_sem, *]
                exact HK.out _ _ (.inl (Below.refl _ _)) rfl
              · intro ev w' hC hc hf hb hr K hK
                have e62 := hr 13 _ rfl (by kernel_rfl)
                change ev (.tmp 62) = _ at e62
                have HK := Lib.hid hK
                have HC := Lib.hid hC
                clear hb hr hK hC hf
                have c9 := byte_at (HRD.out w' HC.out) 9 (by omega) H9.out
                unfold Run
                simp [execOp, Upon, go_sem, *]
                exact HK.out _ _ (.inl (Below.refl _ _)) rfl
              · intro ev w' hC hc hf hb hr K hK
                have e0 : ev (.tmp 0) = _ := hb 0 (by kernel_rfl)
                have HK := Lib.hid hK
                have HC := Lib.hid hC
                clear hb hr hK hC hf
                unfold Run
                simp [execOp, Upon, go_sem, *]
                exact HK.out _ _ (.inl (Below.refl _ _)) rfl
              · intro ev w' hC hc hf hb hr K hK
                have e64 := hr 15 _ rfl (by kernel_rfl)
                change ev (.tmp 64) = _ at e64
                have HK := Lib.hid hK
                have HC := Lib.hid hC
                clear hb hr hK hC hf
                unfold Run
                simp [execOp, Upon, go_sem, *]
                exact HK.out _ _ (.inl (Below.refl _ _)) rfl
              · intro ev w' hC hc hf hb hr K hK
                have e65 := hr 16 _ rfl (by kernel_rfl)
                change ev (.tmp 65) = _ at e65
                have HK := Lib.hid hK
                have HC := Lib.hid hC
                clear hb hr hK hC hf
                unfold Run
                simp [execOp, Upon, go_sem, *]
                exact HK.out _ _ (.inl (Below.refl _ _)) rfl
              · intro ev w' hC hc hf hb hr K hK
                have e66 := hr 17 _ rfl (by kernel_rfl)
                change ev (.tmp 66) = _ at e66
                have HK := Lib.hid hK
                have HC := Lib.hid hC
                clear hb hr hK hC hf
                have hl := run_loadVar_at (P := Try.prog) w' ⟨ad.block, ad.off + 12, none⟩ 28 (cells [s0, s1, s2, s3]) _ (loads_at (HRD.out w' HC.out) 12 (by omega) HS4.out) Try.underlying28 rfl (by kernel_rfl)
                unfold Run
                rw [run_loadE 28 _ rfl e66 hl]
                exact HK.out _ _ (.inl (Below.refl _ _)) rfl
              · intro ev w' hC hc hf hb hr K hK
                have e0 : ev (.tmp 0) = _ := hb 0 (by kernel_rfl)
                have HK := Lib.hid hK
                have HC := Lib.hid hC
                clear hb hr hK hC hf
                unfold Run
                simp [execOp, Upon, go_sem, *]
                exact HK.out _ _ (.inl (Below.refl _ _)) rfl
              · intro ev w' hC hc hf hb hr K hK
                have e68 := hr 19 _ rfl (by kernel_rfl)
                change ev (.tmp 68) = _ at e68
                have HK := Lib.hid hK
                have HC := Lib.hid hC
                clear hb hr hK hC hf
                unfold Run
                simp [execOp, Upon, go_sem, *]
                exact HK.out _ _ (.inl (Below.refl _ _)) rfl
              · intro ev w' hC hc hf hb hr K hK
                have e69 := hr 20 _ rfl (by kernel_rfl)
                change ev (.tmp 69) = _ at e69
                have HK := Lib.hid hK
                have HC := Lib.hid hC
                clear hb hr hK hC hf
                unfold Run
                simp [execOp, Upon, go_sem, *]
                exact HK.out _ _ (.inl (Below.refl _ _)) rfl
              · intro ev w' hC hc hf hb hr K hK
                have e70 := hr 21 _ rfl (by kernel_rfl)
                change ev (.tmp 70) = _ at e70
                have HK := Lib.hid hK
                have HC := Lib.hid hC
                clear hb hr hK hC hf
                have hl := run_loadVar_at (P := Try.prog) w' ⟨ad.block, ad.off + 16, none⟩ 28 (cells [d0, d1, d2, d3]) _ (loads_at (HRD.out w' HC.out) 16 (by omega) HD4.out) Try.underlying28 rfl (by kernel_rfl)
                unfold Run
                rw [run_loadE 28 _ rfl e70 hl]
                exact HK.out _ _ (.inl (Below.refl _ _)) rfl
              · intro ev w' hC hc hf hb hr K hK
                have e0 : ev (.tmp 0) = _ := hb 0 (by kernel_rfl)
                have HK := Lib.hid hK
                have HC := Lib.hid hC
                clear hb hr hK hC hf
                unfold Run
                simp [execOp, Upon, go_sem, *]
                exact HK.out _ _ (.inl (Below.refl _ _)) rfl
              · intro ev w' hC hc hf hb hr K hK
                have e4 : ev (.tmp 4) = _ := hb 4 (by kernel_rfl)
                have HK := Lib.hid hK
                have HC := Lib.hid hC
                clear hb hr hK hC hf
                unfold Run
                simp [execOp, Upon, go_sem, *]
                exact HK.out _ _ (.inl (Below.refl _ _)) rfl
              · intro ev w' hC hc hf hb hr K hK
                have e5 : ev (.tmp 5) = _ := hb 5 (by kernel_rfl)
                have HK := Lib.hid hK
                have HC := Lib.hid hC
                clear hb hr hK hC hf
                unfold Run
                simp [execOp, Upon, go_sem, *]
                exact HK.out _ _ (.inl (Below.refl _ _)) rfl
              · intro ev w' hC hc hf hb hr K hK
                have e72 := hr 23 _ rfl (by kernel_rfl)
                have e73 := hr 24 _ rfl (by kernel_rfl)
                have e74 := hr 25 _ rfl (by kernel_rfl)
                change ev (.tmp 72) = _ at e72
                change ev (.tmp 73) = _ at e73
                change ev (.tmp 74) = _ at e74
                have HK := Lib.hid hK
                have HC := Lib.hid hC
                clear hb hr hK hC hf
                have HSB := Lib.hid (sub_of (HRD.out w' HC.out) hd al HDA.out)
                by_cases hq : hd = c
                · have hq2 : (hd : Int) = (c : Int) := by omega
                  have j4 : c ≤ al := by omega
                  have hd0 : data.length = 0 := by rw [HDN.out]; omega
                  have HD0 := Lib.hid hd0
                  clear hd0
                  unfold Run
                  simp [execOp, Upon, go_sem, *]
                  exact HK.out _ _ (.inl (Below.refl _ _)) ⟨ad, 0, by rw [HD0.out], Nat.le_trans (Nat.le_of_lt HGB.out) HC.out.size, by rw [List.eq_nil_of_length_eq_zero HD0.out]; exact Rd.nil⟩
                · have hq3 : ¬ c = hd := fun e => hq e.symm
                  unfold Run
                  simp [execOp, Upon, go_sem, *]
                  exact HK.out _ _ (.inl (Below.refl _ _)) ⟨ad.add hd, c - hd, by rw [HDN.out], Nat.le_trans (Nat.le_of_lt HGB.out) HC.out.size, HSB.out⟩
              · intro ev w' hC hc hf hb hr K hK
                have e75 := hr 26 _ rfl (by kernel_rfl)
                change (Sub w.heap.size data : Pred) (ev (.tmp 75)) _ at e75
                have HK := Lib.hid hK
                have HC := Lib.hid hC
                clear hb hr hK hC
                obtain ⟨a75, c75, q75, r75⟩ := e75
                have R75 := Lib.hid r75
                clear r75
                unfold Run
                simp [execOp, Upon, go_sem, *]
                refine (clone_some a75 data c75 0 w.heap.size w' R75.out.2 R75.out.1 HDL.out).mono ?_
                rintro e w2 ⟨v, rfl, hf, hb⟩
                exact ⟨v, rfl, HK.out _ _ (.inl hb) (hf.wide HC.out.size)⟩
              · intro ev w' hC hc hf hb hr K hK
                have e50 := hr 1 _ rfl (by kernel_rfl)
                have e53 := hr 4 _ rfl (by kernel_rfl)
                have e57 := hr 8 _ rfl (by kernel_rfl)
                have e60 := hr 11 _ rfl (by kernel_rfl)
                have e63 := hr 14 _ rfl (by kernel_rfl)
                have e67 := hr 18 _ rfl (by kernel_rfl)
                have e71 := hr 22 _ rfl (by kernel_rfl)
                have e76 := hr 27 _ rfl (by kernel_rfl)
                change ev (.tmp 50) = _ at e50
                change ev (.tmp 53) = _ at e53
                change ev (.tmp 57) = _ at e57
                change ev (.tmp 60) = _ at e60
                change ev (.tmp 63) = _ at e63
                change ev (.tmp 67) = _ at e67
                change ev (.tmp 71) = _ at e71
                change (Fresh w4.heap.size data : Pred) (ev (.tmp 76)) _ at e76
                have HK := Lib.hid hK
                have HC := Lib.hid hC
                clear hb hr hK hC hf
                obtain ⟨A76, c76, q76, r76, z76, l76, m76⟩ := e76
                have R76 := Lib.hid (And.intro r76 (And.intro z76 (And.intro l76 m76)))
                clear r76 z76 l76 m76
                unfold Run
                simp [execOp, Upon, go_sem, *]
                exact HK.out _ _ (.inl (Below.refl _ _)) ⟨A76, c76, rfl, R76.out⟩
              · intro ev w' hC hc hf hb hr K hK
                have e2 : ev (.tmp 2) = _ := hb 2 (by kernel_rfl)
                have e77 := hr 28 _ rfl (by kernel_rfl)
                change (PktV w4.heap.size ⟨id, mr, off, ttl, proto, [s0, s1, s2, s3], [d0, d1, d2, d3], data⟩ : Pred) (ev (.tmp 77)) _ at e77
                have HK := Lib.hid hK
                have HC := Lib.hid hC
                clear hb hr hK hC hf
                obtain ⟨A77, c77, q77, r77⟩ := e77
                obtain ⟨old, hold, hsz⟩ := HC.out.shape w.heap.size _ _ _ HGG.out
                have hst := run_storeVar_row (P := Try.prog) w' w.heap.size 60 60 old (pkC (⟨id, mr, off, ttl, proto, [s0, s1, s2, s3], [d0, d1, d2, d3], data⟩ : Pk) (.slice A77 data.length c77)).toArray hold (by kernel_rfl) (by rw [hsz]; rfl) (by kernel_rfl)
                unfold Run
                rw [run_storeE 60 _ _ rfl e2 q77 hst]
                refine HK.out _ _ (.inr ⟨Gro.setRow hold _ (by rw [hsz]; rfl), fun j hj u hr => rl_st (g := w.heap.size) (i := 29) 0 (by exact ⟨.inr (is_st _ _), .inr (is_st _ _), .inr (is_st _ _), .inr (is_st _ _), .inr (is_st _ _), .inr (is_st _ _), .inr (is_st _ _), .inr (is_st _ _), .inr (is_st _ _), .inr (is_st _ _), .inr (is_st _ _), .inr (is_st _ _), .inr (is_st _ _), .inr (is_st _ _), .inr (is_st _ _), .inr (is_st _ _), .inr (is_st _ _), .inr (is_st _ _), .inr (is_st _ _), .inr (is_st _ _), .inr (is_st _ _), .inr (is_st _ _), .inr (is_st _ _), .inr (is_st _ _), .inr (is_st _ _), .inr (is_st _ _), .inr (sub_st _ _), .inr (fresh_st HGB.out _), .inr (pktv_st HGB.out _), .inl rfl, .inr (is_st _ _), trivial⟩) j u _ _ (by omega) (Gro.setRow hold _ (by rw [hsz]; rfl)) hr⟩) ⟨A77, c77, setRow_heap _ _ _ _ _ _ hold, ?_⟩
                exact r77.setRow HGB.out _
              · intro ev w' hC hc hf hb hr K hK
                have HK := Lib.hid hK
                have HC := Lib.hid hC
                clear hb hr hK hC hf
                unfold Run
                simp [execOp, Upon, go_sem, *]
                exact HK.out _ _ (.inl (Below.refl _ _)) rfl
            · exact rl_mono ⟨is_mono _, is_mono _, is_mono _, is_mono _, is_mono _, is_mono _, is_mono _, is_mono _, is_mono _, is_mono _, is_mono _, is_mono _, is_mono _, is_mono _, is_mono _, is_mono _, is_mono _, is_mono _, is_mono _, is_mono _, is_mono _, is_mono _, is_mono _, is_mono _, is_mono _, is_mono _, sub_mono _ _, fresh_mono _ _, pktv_mono _ _, stv_mono _ _ _, is_mono _, trivial⟩
            intro us wr hG hH
            obtain ⟨-, -, -, -, -, -, -, -, -, -, -, -, -, -, -, -, -, -, -, -, -, -, -, -, -, -, -, -, -, h29, h30, -⟩ := hH
            simp only [fillM]
            change (StV w4.heap.size w.heap.size ⟨id, mr, off, ttl, proto, [s0, s1, s2, s3], [d0, d1, d2, d3], data⟩ : Pred) undef wr at h29
            change us 3 = _ at h30
            rw [h30]
            clear h30
            generalize us 49 = v49
            generalize us 50 = v50
            generalize us 51 = v51
            generalize us 52 = v52
            generalize us 53 = v53
            generalize us 54 = v54
            generalize us 55 = v55
            generalize us 56 = v56
            generalize us 57 = v57
            generalize us 58 = v58
            generalize us 59 = v59
            generalize us 60 = v60
            generalize us 61 = v61
            generalize us 62 = v62
            generalize us 63 = v63
            generalize us 64 = v64
            generalize us 65 = v65
            generalize us 66 = v66
            generalize us 67 = v67
            generalize us 68 = v68
            generalize us 69 = v69
            generalize us 70 = v70
            generalize us 71 = v71
            generalize us 72 = v72
            generalize us 73 = v73
            generalize us 74 = v74
            generalize us 75 = v75
            generalize us 76 = v76
            generalize us 77 = v77
            obtain ⟨A7, c7, hgp, hbk⟩ := h29
            have HGP := Lib.hid hgp
            have HBK := Lib.hid hbk
            have HBF : Hid (Below w.heap.size w wr) := HB4.out.trans (hG.below (fun k hk => Nat.le_of_eq hk.symm) HB4.out.size)
            clear hgp hbk hG m82 m81 e8 e88 ha i12 i13 i14 i15 i16 i17 i18 j1 j2
            go_wp2_with fail
            (try simp only [Exit.inBlock, Exit.then])
            refine ret_row (g := w.heap.size) (cs := (pkC ⟨id, mr, off, ttl, proto, [s0, s1, s2, s3], [d0, d1, d2, d3], data⟩ (.slice A7 data.length c7)).toArray) rfl rfl (load_pk HGP.out rfl) rfl ?_
            rw [HPZ4.out, HPK.out]
            exact ⟨_, rfl, ⟨A7, c7, rfl, ⟨HIB.out, rfl, rfl⟩, HOB.out, (HBK.out.1.wide (Nat.le_of_lt HGB.out) (Nat.le_refl _)), HBK.out.2.2.1, HBK.out.2.2.2, HBK.out.2.1⟩, HBF.out⟩
          · have HE : Hid (parseP l = (Pk.zero, 8)) := HPZ3.out.trans (if_pos q5)
            rw [show (((sumL (l.take hd) : Nat) : Int) == 65535) = false from beqF (by omega)]
            clear q5
            go_wp2_with (refine wpList_store_row rfl 60 _ _ rfl w.heap.size #[.int .u16 0, .bool false, .int .i64 0, .int .u8 0, .int .u8 0, .int .u8 0, .int .u8 0, .int .u8 0, .int .u8 0, .int .u8 0, .int .u8 0, .int .u8 0, .int .u8 0, .slice none 0 0] rfl rfl _ _ HG3.out (by kernel_rfl) rfl (by kernel_rfl) ?_)
            (try simp only [Exit.inBlock, Exit.then])
            refine ret_row (g := w.heap.size) (cs := #[.int .u16 0, .bool false, .int .i64 0, .int .u8 0, .int .u8 0, .int .u8 0, .int .u8 0, .int .u8 0, .int .u8 0, .int .u8 0, .int .u8 0, .int .u8 0, .int .u8 0, .slice none 0 0]) rfl rfl (load_pk (setRow_heap w3 _ _ _ _ _ HG3.out) rfl) rfl ?_
            rw [HE.out]
            exact ⟨_, rfl, zero_pkV _ _ _, below_setRow HB3.out (Nat.le_refl _) _⟩
  · have HE : Hid (parseP l = (Pk.zero, 7)) := by show _ = _; rw [HPZ.out, if_pos (.inl q1)]
    have v1 : ((x.toNat : Int) / 16 != 4) = true := bneT (by omega)
    clear q1
    go_wp2_with (refine wpList_store_row rfl 60 _ _ rfl w.heap.size #[.int .u16 0, .bool false, .int .i64 0, .int .u8 0, .int .u8 0, .int .u8 0, .int .u8 0, .int .u8 0, .int .u8 0, .int .u8 0, .int .u8 0, .int .u8 0, .int .u8 0, .slice none 0 0] rfl rfl _ _ HG2.out (by kernel_rfl) rfl (by kernel_rfl) ?_)
    (try simp only [Exit.inBlock, Exit.then])
    refine ret_row (g := w.heap.size) (cs := #[.int .u16 0, .bool false, .int .i64 0, .int .u8 0, .int .u8 0, .int .u8 0, .int .u8 0, .int .u8 0, .int .u8 0, .int .u8 0, .int .u8 0, .int .u8 0, .int .u8 0, .slice none 0 0]) rfl rfl (load_pk (setRow_heap w2 _ _ _ _ _ HG2.out) rfl) rfl ?_
    rw [HE.out]
    exact ⟨_, rfl, zero_pkV _ _ _, below_setRow HB2.out (Nat.le_refl _) _⟩
/-- ip4.Parse, all of it -/
theorem parse_any (A : Option Addr) (l : List UInt8) (c : Nat) (w : World) (h : Rd w 0 w.heap.size A (cells l)) (hc : l.length ≤ c) (hl : l.length ≤ 100000) (hm : c ≤ maxLen) :
    Calls Try.prog 25 #[.slice A l.length c] w (ParsePost w (parseP l)) := by
  by_cases h20 : l.length < 20
  · exact parse_short A l c w h20
  · obtain ⟨ad, rfl, _⟩ := h.byte (k := 0) (by omega)
    exact parse_go ad l c w h (by omega) hc hl hm
end Go.Proofs.Ytjgdmkmfnkaoaaa.V
