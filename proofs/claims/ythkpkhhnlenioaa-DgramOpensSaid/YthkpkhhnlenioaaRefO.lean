/-
  The document's own answers for the Echo, the Datagram of bytes (caravelref08.OpenEcho, OpenDatagram): what the plain functions give, the data in a row of the call's own. Every text of at most 1000 bytes, every two hosts. No condition.
-/
import Derived.Test.YthkpkhhnlenioaaRefD
import Derived.Deep.DeepCutAuto
namespace Go.Proofs.Ythkpkhhnlenioaa
open Go.RowKit

theorem ret_row {P : Program} {fn : Func} {R : Ending → World → Prop} {a : Act} {w : World} {p u : Tmp} {ty : TypeId} {g : Nat} {cs : Array Value} (h : fn.results = #[.cell p ty, .tmp u]) (hp : a.tmps.getD p undef = .pointer (some ⟨g, 0, none⟩))
    (hl : (loadVar ty ⟨g, 0, none⟩).run P w = .ok (.agg cs) w) (hdf : a.defers = []) (hR : R (.returned (.tuple #[.agg cs, a.tmps.getD u undef])) w) : bodyPost P fn R .ret a w := by
  refine bodyPost_ret (v := .tuple #[.agg cs, a.tmps.getD u undef]) ?_ hdf hR
  rw [results_cell_tmp h, hp]
  simp only [asAddr, Sem.run_pure, Result.andThen]
  rw [hl]
/-- what is known of bytes in a row of the call's own -/
def Bk (w : World) (B : Nat) (A : Option Addr) (c : Nat) (l : List UInt8) : Prop := Rd w B w.heap.size A (cells l) ∧ (A = none → c = 0) ∧ l.length ≤ c ∧ c ≤ maxLen
theorem Bk.setRow {w : World} {B c g : Nat} {A : Option Addr} {l : List UInt8} (h : Bk w B A c l) (hg : g < B) (cs : Array Value) : Bk (w.setRow g cs) B A c l := by
  obtain ⟨h1, h2⟩ := h
  refine ⟨(h1.keep (w' := w.setRow g cs) fun p hp _ => World.cell?_of_block (setRow_other w g _ _ (by omega))).wide (Nat.le_refl _) (by simp), h2⟩
theorem Bk.grow {w w' : World} {B c : Nat} {A : Option Addr} {l : List UInt8} (h : Bk w B A c l) (hb : Below w.heap.size w w') : Bk w' B A c l := by
  obtain ⟨h1, h2⟩ := h
  exact ⟨(h1.below hb (Nat.le_refl _)).wide (Nat.le_refl _) hb.size, h2⟩
theorem Bk.gro {w w' : World} {B c g : Nat} {A : Option Addr} {l : List UInt8} (h : Bk w B A c l) (hg : g < B) (hb : Gro (· = g) w w') : Bk w' B A c l := by
  obtain ⟨h1, h2⟩ := h
  exact ⟨(h1.keep (w' := w') fun p hp hq => World.cell?_of_block (hb.block p.block hq (by omega))).wide (Nat.le_refl _) hb.size, h2⟩
theorem fresh_st {g B : Nat} (hg : g < B) (l : List UInt8) : Stable g (Fresh B l) := fun _ _ _ hb h => by
  obtain ⟨A, c, e, h1⟩ := h
  exact ⟨A, c, e, Bk.gro h1 hg hb⟩

def REcO (w : World) (r : Ec × Int) (e : Ending) (w' : World) : Prop := ∃ cs, e = .returned (.tuple #[.agg cs, .int .i64 r.2]) ∧ EcC w' w.heap.size w'.heap.size cs r.1 ∧ Below w.heap.size w w'
def RDgO (w : World) (r : Dg × Int) (e : Ending) (w' : World) : Prop := ∃ cs, e = .returned (.tuple #[.agg cs, .int .i64 r.2]) ∧ DgC w' w.heap.size w'.heap.size cs r.1 ∧ Below w.heap.size w w'
theorem zero_ec (w : World) (lo hi : Nat) : EcC w lo hi #[.bool false, .int .u16 0, .int .u16 0, .slice none 0 0] Ec.zero := ⟨none, 0, rfl, ⟨by decide, by decide⟩, Rd.nil, Nat.le_refl _, Nat.zero_le _, fun _ => rfl⟩
theorem zero_dg (w : World) (lo hi : Nat) : DgC w lo hi #[.int .u16 0, .int .u16 0, .slice none 0 0] Dg.zero := ⟨none, 0, rfl, ⟨by decide, by decide⟩, Rd.nil, Nat.le_refl _, Nat.zero_le _, fun _ => rfl⟩
theorem load_ec {w : World} {g : Nat} {t : TypeId} {cs : Array Value} (hg : w.heap[g]? = some (.cells cs t (0, 0))) (hs : cs.size = 4) : (loadVar 25 ⟨g, 0, none⟩).run Try.prog w = .ok (.agg cs) w :=
  run_loadVar_row w g t 25 cs (0, 0) _ hg Try.underlying25 rfl (by rw [hs]; kernel_rfl)
theorem load_dg {w : World} {g : Nat} {t : TypeId} {cs : Array Value} (hg : w.heap[g]? = some (.cells cs t (0, 0))) (hs : cs.size = 3) : (loadVar 43 ⟨g, 0, none⟩).run Try.prog w = .ok (.agg cs) w :=
  run_loadVar_row w g t 43 cs (0, 0) _ hg Try.underlying43 rfl (by rw [hs]; kernel_rfl)
/-- an Echo's, a Datagram's value, the data in a row of the call's own; in block g -/
def EcV (B : Nat) (x : Ec) : Pred := fun v w => ∃ A c, v = .agg #[.bool x.reply, .int .u16 (x.id : Int), .int .u16 (x.seq : Int), .slice A x.data.length c] ∧ Bk w B A c x.data
def EcS (B g : Nat) (x : Ec) : Pred := fun _ w => ∃ A c, w.heap[g]? = some (.cells #[.bool x.reply, .int .u16 (x.id : Int), .int .u16 (x.seq : Int), .slice A x.data.length c] 25 (0, 0)) ∧ Bk w B A c x.data
def DgV (B : Nat) (x : Dg) : Pred := fun v w => ∃ A c, v = .agg #[.int .u16 (x.src : Int), .int .u16 (x.dst : Int), .slice A x.data.length c] ∧ Bk w B A c x.data
def DgS (B g : Nat) (x : Dg) : Pred := fun _ w => ∃ A c, w.heap[g]? = some (.cells #[.int .u16 (x.src : Int), .int .u16 (x.dst : Int), .slice A x.data.length c] 43 (0, 0)) ∧ Bk w B A c x.data
theorem ecV_mono (B : Nat) (x : Ec) : Mono (EcV B x) := fun _ _ _ hb ⟨A, c, e, h⟩ => ⟨A, c, e, h.grow hb⟩
theorem ecV_st {g B : Nat} (hg : g < B) (x : Ec) : Stable g (EcV B x) := fun _ _ _ hb ⟨A, c, e, h⟩ => ⟨A, c, e, h.gro hg hb⟩
theorem ecS_mono (B g : Nat) (x : Ec) : Mono (EcS B g x) := fun _ _ _ hb ⟨A, c, e, h⟩ => ⟨A, c, (hb.block g (row_lt e)).trans e, h.grow hb⟩
theorem dgV_mono (B : Nat) (x : Dg) : Mono (DgV B x) := fun _ _ _ hb ⟨A, c, e, h⟩ => ⟨A, c, e, h.grow hb⟩
theorem dgV_st {g B : Nat} (hg : g < B) (x : Dg) : Stable g (DgV B x) := fun _ _ _ hb ⟨A, c, e, h⟩ => ⟨A, c, e, h.gro hg hb⟩
theorem dgS_mono (B g : Nat) (x : Dg) : Mono (DgS B g x) := fun _ _ _ hb ⟨A, c, e, h⟩ => ⟨A, c, (hb.block g (row_lt e)).trans e, h.grow hb⟩

set_option maxRecDepth 100000 in
set_option maxHeartbeats 4000000 in
theorem refoec_any (l : List UInt8) (w : World) (hl : l.length ≤ 1000) : Calls Try.prog 16 #[txt l] w (REcO w (ecOpen l)) := by
  have HL63 : Hid (l.length ≤ maxLen) := by show _ ≤ _; unfold maxLen; omega
  have HB2 := Lib.hid ((Below.refl w.heap.size w).alloc (Nat.le_refl _) (.cells #[.bool false, .int .u16 0, .int .u16 0, .slice none 0 0] 25))
  have HG1 := Lib.hid (heap_alloc_new w (.cells #[.bool false, .int .u16 0, .int .u16 0, .slice none 0 0] 25))
  have HB3 := Lib.hid (HB2.out.alloc HB2.out.size (.cells #[.bool false, .int .u16 0, .int .u16 0, .slice none 0 0] 25))
  have HG2 := Lib.hid (old_alloc HG1.out (.cells #[.bool false, .int .u16 0, .int .u16 0, .slice none 0 0] 25))
  have hn2 := heap_alloc_new (w.alloc (.cells #[.bool false, .int .u16 0, .int .u16 0, .slice none 0 0] 25)) (.cells #[.bool false, .int .u16 0, .int .u16 0, .slice none 0 0] 25)
  rw [World.size_alloc] at hn2
  have HN2 := Lib.hid hn2
  clear hn2
  go_enter Try.func16, Try.ntmps16
  go_upto_region 4 with (fail)
  clear HB2 HG1
  generalize (w.alloc (.cells #[.bool false, .int .u16 0, .int .u16 0, .slice none 0 0] 25)).alloc (.cells #[.bool false, .int .u16 0, .int .u16 0, .slice none 0 0] 25) = w2 at HG2 HN2 HB3 ⊢
  by_cases h8 : l.length < 8
  · have HE : Hid (ecOpen l = (Ec.zero, 6)) := by show _ = _; unfold ecOpen; rw [if_pos h8]
    have v1 : (l.length : Int) < 8 := by omega
    go_wp2_with (first | refine wpList_load_row rfl 25 _ rfl (w.heap.size + 1) rfl 25 #[.bool false, .int .u16 0, .int .u16 0, .slice none 0 0] (0, 0) _ HN2.out Try.underlying25 rfl (by kernel_rfl) ?_ | refine wpList_store_row rfl 25 _ _ rfl w.heap.size #[.bool false, .int .u16 0, .int .u16 0, .slice none 0 0] rfl rfl 25 #[.bool false, .int .u16 0, .int .u16 0, .slice none 0 0] HG2.out (by kernel_rfl) rfl (by kernel_rfl) ?_)
    (try simp only [Exit.inBlock, Exit.then])
    refine ret_row (g := w.heap.size) (cs := #[.bool false, .int .u16 0, .int .u16 0, .slice none 0 0]) rfl rfl (load_ec (setRow_heap w2 _ _ _ _ _ HG2.out) rfl) rfl ?_
    rw [HE.out]
    exact ⟨_, rfl, zero_ec _ _ _, below_setRow HB3.out (Nat.le_refl _) _⟩
  have v1 : 8 ≤ (l.length : Int) := by omega
  have HZ0 : Hid (ecOpen l = if sumL l ≠ 65535 then (Ec.zero, 8) else if (l.getD 0 0 ≠ 0 ∧ l.getD 0 0 ≠ 8) ∨ l.getD 1 0 ≠ 0 then (Ec.zero, 7) else (⟨decide (l.getD 0 0 = 0), numAt l 4, numAt l 6, l.drop 8⟩, 0)) := by
    show _ = _
    unfold ecOpen
    rw [if_neg h8]
  go_wp2_with fail
  ((with_reducible refine (reffold_any l _ (by omega)).mono ?_); rintro e w3 ⟨rfl, rfl⟩)
  by_cases q5 : sumL l = 65535
  rotate_left
  · have HE : Hid (ecOpen l = (Ec.zero, 8)) := HZ0.out.trans (if_pos q5)
    have v6 : (((sumL l : Nat) : Int) != 65535) = true := bneT (by omega)
    clear q5
    go_wp2_with (first | refine wpList_load_row rfl 25 _ rfl (w.heap.size + 1) rfl 25 #[.bool false, .int .u16 0, .int .u16 0, .slice none 0 0] (0, 0) _ HN2.out Try.underlying25 rfl (by kernel_rfl) ?_ | refine wpList_store_row rfl 25 _ _ rfl w.heap.size #[.bool false, .int .u16 0, .int .u16 0, .slice none 0 0] rfl rfl 25 #[.bool false, .int .u16 0, .int .u16 0, .slice none 0 0] HG2.out (by kernel_rfl) rfl (by kernel_rfl) ?_)
    (try simp only [Exit.inBlock, Exit.then])
    refine ret_row (g := w.heap.size) (cs := #[.bool false, .int .u16 0, .int .u16 0, .slice none 0 0]) rfl rfl (load_ec (setRow_heap w2 _ _ _ _ _ HG2.out) rfl) rfl ?_
    rw [HE.out]
    exact ⟨_, rfl, zero_ec _ _ _, below_setRow HB3.out (Nat.le_refl _) _⟩
  have hz := HZ0.out.trans (if_neg (by simp [q5]))
  have v6 : (((sumL l : Nat) : Int) != 65535) = false := bneF (by omega)
  clear q5
  obtain ⟨x0, hx0⟩ : ∃ x, l[0]'(by omega) = x := ⟨_, rfl⟩
  obtain ⟨x1, hx1⟩ : ∃ x, l[1]'(by omega) = x := ⟨_, rfl⟩
  have g0 : l.getD 0 0 = x0 := by rw [List.getD_eq_getElem?_getD, List.getElem?_eq_getElem (by omega), hx0]; rfl
  have g1 : l.getD 1 0 = x1 := by rw [List.getD_eq_getElem?_getD, List.getElem?_eq_getElem (by omega), hx1]; rfl
  rw [g0, g1] at hz
  have z0 : (⟨l.toArray⟩ : ByteArray)[0]'(by show 0 < l.length; omega) = x0 := hx0
  have z1 : (⟨l.toArray⟩ : ByteArray)[1]'(by show 1 < l.length; omega) = x1 := hx1
  have i0 : (0 : Int) < (l.length : Int) := by omega
  have i1 : (1 : Int) < (l.length : Int) := by omega
  have j0 : 0 < l.length := by omega
  have j1 : 1 < l.length := by omega
  clear hx0 hx1 g0 g1
  have hcase : (∃ rp, decide (x0 = 0) = rp ∧ (x0 = 0 ∧ rp = true ∨ x0 = 8 ∧ rp = false) ∧ x1 = 0) ∨ ((x0 ≠ 0 ∧ x0 ≠ 8) ∨ ((x0 = 0 ∨ x0 = 8) ∧ x1 ≠ 0)) := by
    by_cases a0 : x0 = 0
    · by_cases a1 : x1 = 0
      · exact .inl ⟨true, by simp [a0], .inl ⟨a0, rfl⟩, a1⟩
      · exact .inr (.inr ⟨.inl a0, a1⟩)
    · by_cases a8 : x0 = 8
      · by_cases a1 : x1 = 0
        · exact .inl ⟨false, by simp [a8], .inr ⟨a8, rfl⟩, a1⟩
        · exact .inr (.inr ⟨.inr a8, a1⟩)
      · exact .inr (.inl ⟨a0, a8⟩)
  rcases hcase with ⟨rp, hrp, hx, rfl⟩ | hcase
  · have HP4 : Hid (ecOpen l = (⟨rp, numAt l 4, numAt l 6, l.drop 8⟩, 0)) := by
      show _ = _
      rw [hz, if_neg (by rcases hx with ⟨rfl, _⟩ | ⟨rfl, _⟩ <;> simp), hrp]
    have HRP : Hid (((x0.toNat : Int) == 0) = rp) := by
      show _ = _
      rcases hx with ⟨rfl, rfl⟩ | ⟨rfl, rfl⟩ <;> rfl
    clear hrp hz
    obtain ⟨id, hid⟩ : ∃ id, numAt l 4 = id := ⟨_, rfl⟩
    obtain ⟨sq, hsq⟩ : ∃ sq, numAt l 6 = sq := ⟨_, rfl⟩
    obtain ⟨data, hdata⟩ : ∃ data, l.drop 8 = data := ⟨_, rfl⟩
    have hidl := numAt_lt l 4
    have hsql := numAt_lt l 6
    have hdl : data.length = l.length - 8 := by rw [← hdata, List.length_drop]
    have hex := ba_take l 8 l.length
    rw [List.take_length] at hex
    rw [hid, hsq, hdata] at HP4
    rw [hid] at hidl
    rw [hsq] at hsql
    rw [hdata] at hex
    have HID := Lib.hid hid
    have HSQ := Lib.hid hsq
    have HEX := Lib.hid hex
    have HDL : Hid (data.length ≤ 1000000000) := by show _ ≤ _; omega
    have HU1 : Hid (IntKind.u16.wrap (id : Int) = (id : Int)) := IntWalk.u16_in _ ⟨by omega, by omega⟩
    have HU2 : Hid (IntKind.u16.wrap (sq : Int) = (sq : Int)) := IntWalk.u16_in _ ⟨by omega, by omega⟩
    have HOKX : Hid (id < 65536 ∧ sq < 65536) := ⟨hidl, hsql⟩
    have HGG := HG2
    have HGB : Hid (w.heap.size < w2.heap.size) := row_lt HG2.out
    clear hid hsq hdata hdl hex hidl hsql
    have n0 : ((0 : UInt8).toNat : Int) = 0 := rfl
    have n8 : ((8 : UInt8).toNat : Int) = 8 := rfl
    rcases hx with ⟨rfl, hv⟩ | ⟨rfl, hv⟩
    all_goals
      have HV := Lib.hid hv
      clear hv
      go_upto_region 10 with (fail)
      clear v6
      apply wp_region_rely (· = w.heap.size) (RL [Is _, Is _, Is (.bool rp), Is _, Is (.int .i64 (id : Int)), Is (.int .u16 (id : Int)), Is _, Is (.int .i64 (sq : Int)), Is (.int .u16 (sq : Int)), Is _, Is (txt data), Fresh w2.heap.size data, EcV w2.heap.size ⟨rp, id, sq, data⟩, EcS w2.heap.size w.heap.size ⟨rp, id, sq, data⟩, Is (.int .i64 0)]) [false, false, false, true, false, false, false, false, false, false, false, false, false, false, false, false, false, false, false, false, false, false, false, false, false, false, false, false, false, false, false, false, true, true, true, true, true, true, true, true, true, true, true, true, true]
      · kernel_rfl
      · kernel_rfl
      · kernel_rfl
      · refine ⟨?_, ?_, ?_, ?_, ?_, ?_, ?_, ?_, ?_, ?_, ?_, ?_, ?_, ?_, ?_, trivial⟩
        · intro ev w' hC hc hf hb hr K hK
          have e0 : ev (.tmp 0) = _ := hb 0 (by kernel_rfl)
          have HK := Lib.hid hK
          have HC := Lib.hid hC
          clear hb hr hK hC hf
          unfold Run
          simp [execOp, Upon, go_sem, *]
          exact HK.out _ _ (.inl (Below.refl _ _)) rfl
        · intro ev w' hC hc hf hb hr K hK
          have e32 := hr 0 _ rfl (by kernel_rfl)
          change ev (.tmp 32) = _ at e32
          have HK := Lib.hid hK
          have HC := Lib.hid hC
          clear hb hr hK hC hf
          unfold Run
          simp [execOp, Upon, go_sem, *]
          exact HK.out _ _ (.inl (Below.refl _ _)) rfl
        · intro ev w' hC hc hf hb hr K hK
          have e33 := hr 1 _ rfl (by kernel_rfl)
          change ev (.tmp 33) = _ at e33
          have HK := Lib.hid hK
          have HC := Lib.hid hC
          clear hb hr hK hC hf
          unfold Run
          simp [execOp, Upon, go_sem, *]
          exact HK.out _ _ (.inl (Below.refl _ _)) (by show Value.bool _ = Value.bool _; congr 1; first | done | exact HRP.out | exact HV.out.symm)
        · intro ev w' hC hc hf hb hr K hK
          have e0 : ev (.tmp 0) = _ := hb 0 (by kernel_rfl)
          have HK := Lib.hid hK
          have HC := Lib.hid hC
          clear hb hr hK hC hf
          unfold Run
          simp [execOp, Upon, go_sem, *]
          exact HK.out _ _ (.inl (Below.refl _ _)) rfl
        · intro ev w' hC hc hf hb hr K hK
          have e35 := hr 3 _ rfl (by kernel_rfl)
          change ev (.tmp 35) = _ at e35
          have HK := Lib.hid hK
          have HC := Lib.hid hC
          clear hb hr hK hC
          unfold Run
          simp [execOp, Upon, go_sem, *]
          refine (num_any l 4 _ (by omega) HL63.out).mono ?_
          rintro e w2 ⟨rfl, hb⟩
          exact ⟨_, rfl, HK.out _ _ (.inl hb) (by show _ = _; rw [HID.out])⟩
        · intro ev w' hC hc hf hb hr K hK
          have e36 := hr 4 _ rfl (by kernel_rfl)
          change ev (.tmp 36) = _ at e36
          have HK := Lib.hid hK
          have HC := Lib.hid hC
          clear hb hr hK hC hf
          unfold Run
          simp [execOp, Upon, go_sem, *]
          exact HK.out _ _ (.inl (Below.refl _ _)) (by show Value.int _ _ = Value.int _ _; congr 1; first | done | exact HU1.out)
        · intro ev w' hC hc hf hb hr K hK
          have e0 : ev (.tmp 0) = _ := hb 0 (by kernel_rfl)
          have HK := Lib.hid hK
          have HC := Lib.hid hC
          clear hb hr hK hC hf
          unfold Run
          simp [execOp, Upon, go_sem, *]
          exact HK.out _ _ (.inl (Below.refl _ _)) rfl
        · intro ev w' hC hc hf hb hr K hK
          have e38 := hr 6 _ rfl (by kernel_rfl)
          change ev (.tmp 38) = _ at e38
          have HK := Lib.hid hK
          have HC := Lib.hid hC
          clear hb hr hK hC
          unfold Run
          simp [execOp, Upon, go_sem, *]
          refine (num_any l 6 _ (by omega) HL63.out).mono ?_
          rintro e w2 ⟨rfl, hb⟩
          exact ⟨_, rfl, HK.out _ _ (.inl hb) (by show _ = _; rw [HSQ.out])⟩
        · intro ev w' hC hc hf hb hr K hK
          have e39 := hr 7 _ rfl (by kernel_rfl)
          change ev (.tmp 39) = _ at e39
          have HK := Lib.hid hK
          have HC := Lib.hid hC
          clear hb hr hK hC hf
          unfold Run
          simp [execOp, Upon, go_sem, *]
          exact HK.out _ _ (.inl (Below.refl _ _)) (by show Value.int _ _ = Value.int _ _; congr 1; first | done | exact HU2.out)
        · intro ev w' hC hc hf hb hr K hK
          have e0 : ev (.tmp 0) = _ := hb 0 (by kernel_rfl)
          have HK := Lib.hid hK
          have HC := Lib.hid hC
          clear hb hr hK hC hf
          unfold Run
          simp [execOp, Upon, go_sem, *]
          exact HK.out _ _ (.inl (Below.refl _ _)) rfl
        · intro ev w' hC hc hf hb hr K hK
          have e41 := hr 9 _ rfl (by kernel_rfl)
          change ev (.tmp 41) = _ at e41
          have HK := Lib.hid hK
          have HC := Lib.hid hC
          clear hb hr hK hC hf
          unfold Run
          simp [execOp, Upon, go_sem, *]
          exact HK.out _ _ (.inl (Below.refl _ _)) (by show Value.string _ = Value.string _; congr 1; first | done | exact HEX.out)
        · intro ev w' hC hc hf hb hr K hK
          have e42 := hr 10 _ rfl (by kernel_rfl)
          change ev (.tmp 42) = _ at e42
          have HK := Lib.hid hK
          have HC := Lib.hid hC
          clear hb hr hK hC hf
          have kb := run_bytes w' data data.length rfl
          have HCAP := Lib.hid (cap_ok w' data.length HDL.out)
          unfold Run
          simp [execOp, Upon, go_sem, *]
          exact HK.out _ _ (.inl (bw_below (Below.refl _ _) (Nat.le_refl _) _)) ⟨_, _, rfl, ((bw_rd w' data).wide HC.out.size (by rw [bw_size]; exact Nat.le_refl _)), (fun h => by cases h), HCAP.out⟩
        · intro ev w' hC hc hf hb hr K hK
          have e34 := hr 2 _ rfl (by kernel_rfl)
          have e37 := hr 5 _ rfl (by kernel_rfl)
          have e40 := hr 8 _ rfl (by kernel_rfl)
          have e43 := hr 11 _ rfl (by kernel_rfl)
          change ev (.tmp 34) = _ at e34
          change ev (.tmp 37) = _ at e37
          change ev (.tmp 40) = _ at e40
          change (Fresh w2.heap.size data : Pred) (ev (.tmp 43)) _ at e43
          have HK := Lib.hid hK
          have HC := Lib.hid hC
          clear hb hr hK hC hf
          obtain ⟨A7, c7, q7, r7⟩ := e43
          have R7 := Lib.hid r7
          clear r7
          unfold Run
          simp [execOp, Upon, go_sem, *]
          exact HK.out _ _ (.inl (Below.refl _ _)) ⟨A7, c7, rfl, R7.out⟩
        · intro ev w' hC hc hf hb hr K hK
          have e2 : ev (.tmp 2) = _ := hb 2 (by kernel_rfl)
          have e44 := hr 12 _ rfl (by kernel_rfl)
          change (EcV w2.heap.size ⟨rp, id, sq, data⟩ : Pred) (ev (.tmp 44)) _ at e44
          have HK := Lib.hid hK
          have HC := Lib.hid hC
          clear hb hr hK hC hf
          obtain ⟨A7, c7, q7, r7⟩ := e44
          obtain ⟨old, hold, hsz⟩ := HC.out.shape w.heap.size _ _ _ HGG.out
          have hst := run_storeVar_row (P := Try.prog) w' w.heap.size 25 25 old #[.bool rp, .int .u16 (id : Int), .int .u16 (sq : Int), .slice A7 data.length c7] hold (by kernel_rfl) (by rw [hsz]; rfl) (by kernel_rfl)
          unfold Run
          rw [run_storeE 25 _ _ rfl e2 q7 hst]
          refine HK.out _ _ (.inr ⟨Gro.setRow hold _ (by rw [hsz]; rfl), fun j hj u hr => rl_st (g := w.heap.size) (i := 13) 0 (by exact ⟨.inr (is_st _ _), .inr (is_st _ _), .inr (is_st _ _), .inr (is_st _ _), .inr (is_st _ _), .inr (is_st _ _), .inr (is_st _ _), .inr (is_st _ _), .inr (is_st _ _), .inr (is_st _ _), .inr (is_st _ _), .inr (fresh_st HGB.out _), .inr (ecV_st HGB.out _), .inl rfl, .inr (is_st _ _), trivial⟩) j u _ _ (by omega) (Gro.setRow hold _ (by rw [hsz]; rfl)) hr⟩) ⟨A7, c7, setRow_heap _ _ _ _ _ _ hold, ?_⟩
          exact r7.setRow HGB.out _
        · intro ev w' hC hc hf hb hr K hK
          have HK := Lib.hid hK
          have HC := Lib.hid hC
          clear hb hr hK hC hf
          unfold Run
          simp [execOp, Upon, go_sem, *]
          exact HK.out _ _ (.inl (Below.refl _ _)) rfl
      · exact rl_mono ⟨is_mono _, is_mono _, is_mono _, is_mono _, is_mono _, is_mono _, is_mono _, is_mono _, is_mono _, is_mono _, is_mono _, fresh_mono _ _, ecV_mono _ _, ecS_mono _ _ _, is_mono _, trivial⟩
      intro us wr hG hH
      obtain ⟨-, -, -, -, -, -, -, -, -, -, -, -, -, h13, h14, -⟩ := hH
      simp only [fillM]
      change (EcS w2.heap.size w.heap.size ⟨rp, id, sq, data⟩ : Pred) undef wr at h13
      change us 3 = _ at h14
      rw [h14]
      clear h14
      generalize us 32 = v32
      generalize us 33 = v33
      generalize us 34 = v34
      generalize us 35 = v35
      generalize us 36 = v36
      generalize us 37 = v37
      generalize us 38 = v38
      generalize us 39 = v39
      generalize us 40 = v40
      generalize us 41 = v41
      generalize us 42 = v42
      generalize us 43 = v43
      generalize us 44 = v44
      obtain ⟨A7, c7, hgp, hbk⟩ := h13
      have HGP := Lib.hid hgp
      have HBK := Lib.hid hbk
      have HBF : Hid (Below w.heap.size w wr) := HB3.out.trans (hG.below (fun k hk => Nat.le_of_eq hk.symm) HB3.out.size)
      clear hgp hbk hG z0 z1 i0 i1 j0 j1
      go_wp2_with fail
      (try simp only [Exit.inBlock, Exit.then])
      refine ret_row (g := w.heap.size) rfl rfl (load_ec HGP.out rfl) rfl ?_
      rw [HP4.out]
      exact ⟨_, rfl, ⟨A7, c7, rfl, HOKX.out, HBK.out.1.wide (Nat.le_of_lt HGB.out) (Nat.le_refl _), HBK.out.2.2.1, HBK.out.2.2.2, HBK.out.2.1⟩, HBF.out⟩
  · have HE : Hid (ecOpen l = (Ec.zero, 7)) := by
      show _ = _
      rw [hz, if_pos]
      rcases hcase with h | h
      · exact .inl h
      · exact .inr h.2
    clear hz
    have hb : (((x0.toNat : Int) != 0) = true ∧ ((x0.toNat : Int) != 8) = true) ∨ ((((x0.toNat : Int) != 0) = false ∨ (((x0.toNat : Int) != 0) = true ∧ ((x0.toNat : Int) != 8) = false)) ∧ ((x1.toNat : Int) != 0) = true) := by
      have ne : ∀ (a b : UInt8), a ≠ b → ((a.toNat : Int) != (b.toNat : Int)) = true := fun a b h => bneT fun h2 => h (UInt8.toNat_inj.1 (Int.ofNat.inj h2))
      rcases hcase with ⟨h0, h8'⟩ | ⟨h, h1⟩
      · exact .inl ⟨ne x0 0 h0, ne x0 8 h8'⟩
      · refine .inr ⟨?_, ne x1 0 h1⟩
        rcases h with rfl | rfl
        · exact .inl rfl
        · exact .inr ⟨rfl, rfl⟩
    clear hcase
    rcases hb with ⟨b0, b8⟩ | ⟨b0 | ⟨b0, b8⟩, b1⟩
    all_goals
      go_wp2_with (first | refine wpList_load_row rfl 25 _ rfl (w.heap.size + 1) rfl 25 #[.bool false, .int .u16 0, .int .u16 0, .slice none 0 0] (0, 0) _ HN2.out Try.underlying25 rfl (by kernel_rfl) ?_ | refine wpList_store_row rfl 25 _ _ rfl w.heap.size #[.bool false, .int .u16 0, .int .u16 0, .slice none 0 0] rfl rfl 25 #[.bool false, .int .u16 0, .int .u16 0, .slice none 0 0] HG2.out (by kernel_rfl) rfl (by kernel_rfl) ?_)
      (try simp only [Exit.inBlock, Exit.then])
      refine ret_row (g := w.heap.size) (cs := #[.bool false, .int .u16 0, .int .u16 0, .slice none 0 0]) rfl rfl (load_ec (setRow_heap w2 _ _ _ _ _ HG2.out) rfl) rfl ?_
      rw [HE.out]
      exact ⟨_, rfl, zero_ec _ _ _, below_setRow HB3.out (Nat.le_refl _) _⟩

set_option maxRecDepth 100000 in
set_option maxHeartbeats 8000000 in
theorem refodg_any (l : List UInt8) (s0 s1 s2 s3 d0 d1 d2 d3 : UInt8) (w : World) (hl : l.length ≤ 1000) : Calls Try.prog 17 #[txt l, .agg #[.int .u8 (s0.toNat : Int), .int .u8 (s1.toNat : Int), .int .u8 (s2.toNat : Int), .int .u8 (s3.toNat : Int)], .agg #[.int .u8 (d0.toNat : Int), .int .u8 (d1.toNat : Int), .int .u8 (d2.toNat : Int), .int .u8 (d3.toNat : Int)]] w (RDgO w (dgOpen [s0, s1, s2, s3] [d0, d1, d2, d3] l)) := by
  have HL63 : Hid (l.length ≤ maxLen) := by show _ ≤ _; unfold maxLen; omega
  obtain ⟨w2, hw2⟩ : ∃ w2, (((w.alloc (.cells #[.int .u8 (s0.toNat : Int), .int .u8 (s1.toNat : Int), .int .u8 (s2.toNat : Int), .int .u8 (s3.toNat : Int)] 27)).alloc (.cells #[.int .u8 (d0.toNat : Int), .int .u8 (d1.toNat : Int), .int .u8 (d2.toNat : Int), .int .u8 (d3.toNat : Int)] 27)).alloc (.cells #[.int .u16 0, .int .u16 0, .slice none 0 0] 43)).alloc (.cells #[.int .u16 0, .int .u16 0, .slice none 0 0] 43) = w2 := ⟨_, rfl⟩
  have HB2 : Hid (Below w.heap.size w w2) := by show Below _ _ _; rw [← hw2]; exact ((((Below.refl _ _).alloc (Nat.le_refl _) _).alloc (by simp) _).alloc (by simp; omega) _).alloc (by simp; omega) _
  have HGS2 : Hid (w2.heap[w.heap.size]? = some (.cells #[.int .u8 (s0.toNat : Int), .int .u8 (s1.toNat : Int), .int .u8 (s2.toNat : Int), .int .u8 (s3.toNat : Int)] 27 (0, 0))) := by show _ = _; rw [← hw2]; exact old_alloc (old_alloc (old_alloc (heap_alloc_new w _) _) _) _
  have HGD2 : Hid (w2.heap[w.heap.size + 1]? = some (.cells #[.int .u8 (d0.toNat : Int), .int .u8 (d1.toNat : Int), .int .u8 (d2.toNat : Int), .int .u8 (d3.toNat : Int)] 27 (0, 0))) := by
    have := heap_alloc_new (w.alloc (.cells #[.int .u8 (s0.toNat : Int), .int .u8 (s1.toNat : Int), .int .u8 (s2.toNat : Int), .int .u8 (s3.toNat : Int)] 27)) (.cells #[.int .u8 (d0.toNat : Int), .int .u8 (d1.toNat : Int), .int .u8 (d2.toNat : Int), .int .u8 (d3.toNat : Int)] 27)
    rw [World.size_alloc] at this
    show _ = _
    rw [← hw2]
    exact old_alloc (old_alloc this _) _
  have HGZ2 : Hid (w2.heap[w.heap.size + 2]? = some (.cells #[.int .u16 0, .int .u16 0, .slice none 0 0] 43 (0, 0))) := by
    have := heap_alloc_new ((w.alloc (.cells #[.int .u8 (s0.toNat : Int), .int .u8 (s1.toNat : Int), .int .u8 (s2.toNat : Int), .int .u8 (s3.toNat : Int)] 27)).alloc (.cells #[.int .u8 (d0.toNat : Int), .int .u8 (d1.toNat : Int), .int .u8 (d2.toNat : Int), .int .u8 (d3.toNat : Int)] 27)) (.cells #[.int .u16 0, .int .u16 0, .slice none 0 0] 43)
    rw [World.size_alloc, World.size_alloc] at this
    show _ = _
    rw [← hw2]
    exact old_alloc this _
  have HGN2 : Hid (w2.heap[w.heap.size + 3]? = some (.cells #[.int .u16 0, .int .u16 0, .slice none 0 0] 43 (0, 0))) := by
    have := heap_alloc_new (((w.alloc (.cells #[.int .u8 (s0.toNat : Int), .int .u8 (s1.toNat : Int), .int .u8 (s2.toNat : Int), .int .u8 (s3.toNat : Int)] 27)).alloc (.cells #[.int .u8 (d0.toNat : Int), .int .u8 (d1.toNat : Int), .int .u8 (d2.toNat : Int), .int .u8 (d3.toNat : Int)] 27)).alloc (.cells #[.int .u16 0, .int .u16 0, .slice none 0 0] 43)) (.cells #[.int .u16 0, .int .u16 0, .slice none 0 0] 43)
    rw [World.size_alloc, World.size_alloc, World.size_alloc] at this
    show _ = _
    rw [← hw2]
    exact this
  have HW2 := Lib.hid hw2
  clear hw2
  go_enter Try.func17, Try.ntmps17
  go_upto_region 4 with (fail)
  rw [HW2.out]
  by_cases h8 : l.length < 8
  · have HE : Hid (dgOpen [s0, s1, s2, s3] [d0, d1, d2, d3] l = (Dg.zero, 6)) := by show _ = _; unfold dgOpen; rw [if_pos h8]
    have v1 : (l.length : Int) < 8 := by omega
    go_wp2_with (first | refine wpList_load_row rfl 43 _ rfl (w.heap.size + 3) rfl 43 #[.int .u16 0, .int .u16 0, .slice none 0 0] (0, 0) _ HGN2.out Try.underlying43 rfl (by kernel_rfl) ?_ | refine wpList_store_row rfl 43 _ _ rfl (w.heap.size + 2) #[.int .u16 0, .int .u16 0, .slice none 0 0] rfl rfl 43 #[.int .u16 0, .int .u16 0, .slice none 0 0] HGZ2.out (by kernel_rfl) rfl (by kernel_rfl) ?_)
    (try simp only [Exit.inBlock, Exit.then])
    refine ret_row (g := (w.heap.size + 2)) (cs := #[.int .u16 0, .int .u16 0, .slice none 0 0]) rfl rfl (load_dg (setRow_heap w2 _ _ _ _ _ HGZ2.out) rfl) rfl ?_
    rw [HE.out]
    exact ⟨_, rfl, zero_dg _ _ _, below_setRow HB2.out (by omega) _⟩
  have v1 : 8 ≤ (l.length : Int) := by omega
  obtain ⟨n, hn⟩ : ∃ n, numAt l 4 = n := ⟨_, rfl⟩
  obtain ⟨m, hm⟩ : ∃ m, numAt l 6 = m := ⟨_, rfl⟩
  have hnl := numAt_lt l 4
  have HM := Lib.hid hm
  have HZ1 : Hid (dgOpen [s0, s1, s2, s3] [d0, d1, d2, d3] l = if n < 8 then (Dg.zero, 7) else if l.length < n then (Dg.zero, 6) else if m ≠ 0 ∧ sumL (pseudoL [s0, s1, s2, s3] [d0, d1, d2, d3] n ++ l.take n) ≠ 65535 then (Dg.zero, 8) else (⟨numAt l 0, numAt l 2, (l.take n).drop 8⟩, 0)) := by
    show _ = _
    unfold dgOpen
    rw [if_neg h8, hn, hm]
  have hml := numAt_lt l 6
  rw [hm] at hml
  rw [hn] at hnl
  have HN := Lib.hid hn
  clear hn hm
  go_wp2_with fail
  refine (num_any l 4 _ (by omega) HL63.out).mono ?_
  rw [HN.out]
  rintro e w3 ⟨rfl, hb3⟩
  have HB3 : Hid (Below w.heap.size w w3) := HB2.out.trans (hb3.mono HB2.out.size)
  have HGS3 := Lib.hid ((hb3.block _ (row_lt HGS2.out)).trans HGS2.out)
  have HGD3 := Lib.hid ((hb3.block _ (row_lt HGD2.out)).trans HGD2.out)
  have HGZ3 := Lib.hid ((hb3.block _ (row_lt HGZ2.out)).trans HGZ2.out)
  have HGN3 := Lib.hid ((hb3.block _ (row_lt HGN2.out)).trans HGN2.out)
  clear hb3
  by_cases q1 : n < 8
  · have HE : Hid (dgOpen [s0, s1, s2, s3] [d0, d1, d2, d3] l = (Dg.zero, 7)) := HZ1.out.trans (if_pos q1)
    have v2 : (n : Int) < 8 := by omega
    go_wp2_with (first | refine wpList_load_row rfl 43 _ rfl (w.heap.size + 3) rfl 43 #[.int .u16 0, .int .u16 0, .slice none 0 0] (0, 0) _ HGN3.out Try.underlying43 rfl (by kernel_rfl) ?_ | refine wpList_store_row rfl 43 _ _ rfl (w.heap.size + 2) #[.int .u16 0, .int .u16 0, .slice none 0 0] rfl rfl 43 #[.int .u16 0, .int .u16 0, .slice none 0 0] HGZ3.out (by kernel_rfl) rfl (by kernel_rfl) ?_)
    (try simp only [Exit.inBlock, Exit.then])
    refine ret_row (g := (w.heap.size + 2)) (cs := #[.int .u16 0, .int .u16 0, .slice none 0 0]) rfl rfl (load_dg (setRow_heap w3 _ _ _ _ _ HGZ3.out) rfl) rfl ?_
    rw [HE.out]
    exact ⟨_, rfl, zero_dg _ _ _, below_setRow HB3.out (by omega) _⟩
  have v2 : 8 ≤ (n : Int) := by omega
  have HZ2 := Lib.hid (HZ1.out.trans (if_neg q1))
  by_cases q2 : l.length < n
  · have HE : Hid (dgOpen [s0, s1, s2, s3] [d0, d1, d2, d3] l = (Dg.zero, 6)) := HZ2.out.trans (if_pos q2)
    have v3 : (l.length : Int) < (n : Int) := by omega
    go_wp2_with (first | refine wpList_load_row rfl 43 _ rfl (w.heap.size + 3) rfl 43 #[.int .u16 0, .int .u16 0, .slice none 0 0] (0, 0) _ HGN3.out Try.underlying43 rfl (by kernel_rfl) ?_ | refine wpList_store_row rfl 43 _ _ rfl (w.heap.size + 2) #[.int .u16 0, .int .u16 0, .slice none 0 0] rfl rfl 43 #[.int .u16 0, .int .u16 0, .slice none 0 0] HGZ3.out (by kernel_rfl) rfl (by kernel_rfl) ?_)
    (try simp only [Exit.inBlock, Exit.then])
    refine ret_row (g := (w.heap.size + 2)) (cs := #[.int .u16 0, .int .u16 0, .slice none 0 0]) rfl rfl (load_dg (setRow_heap w3 _ _ _ _ _ HGZ3.out) rfl) rfl ?_
    rw [HE.out]
    exact ⟨_, rfl, zero_dg _ _ _, below_setRow HB3.out (by omega) _⟩
  have v3 : (n : Int) ≤ (l.length : Int) := by omega
  have HZ3 := Lib.hid (HZ2.out.trans (if_neg q2))
  obtain ⟨ps, hps⟩ : ∃ ps, pseudoL [s0, s1, s2, s3] [d0, d1, d2, d3] n = ps := ⟨_, rfl⟩
  obtain ⟨tk, htk⟩ : ∃ tk, l.take n = tk := ⟨_, rfl⟩
  obtain ⟨sm, hsm⟩ : ∃ sm, sumL (ps ++ tk) = sm := ⟨_, rfl⟩
  have HPS : Hid ([s0, s1, s2, s3] ++ [d0, d1, d2, d3] ++ [0, 17] ++ two n = ps) := hps
  have hpl : ps.length = 12 := by rw [← hps]; rfl
  have htl : tk.length ≤ 1000 := by rw [← htk, List.length_take]; omega
  have v11 : ¬ 9223372036854775807 < ps.length + tk.length := by omega
  have HLL : Hid ((ps ++ tk).length ≤ 1000000) := by show _ ≤ _; rw [List.length_append]; omega
  have HTK : Hid ((⟨l.toArray⟩ : ByteArray).extract 0 n = ⟨tk.toArray⟩) := by
    have := ba_take l 0 n
    rw [List.drop_zero, htk] at this
    exact this
  have HAP : Hid ((⟨ps.toArray⟩ : ByteArray) ++ ⟨tk.toArray⟩ = ⟨(ps ++ tk).toArray⟩) := str_app ps tk
  have HSM := Lib.hid hsm
  have hz3 := HZ3.out
  rw [hps, htk, hsm] at hz3
  have HZ4 := Lib.hid hz3
  have HTKL := Lib.hid htk
  clear hps htk hsm hpl htl hz3 HZ1 HZ2 HZ3 q1 q2
  have v4 : (n : Int).toNat = n := by omega
  have v5 : (0 : Int) ≤ (n : Int) := by omega
  have v6 : n ≤ l.length := by omega
  go_upto_region 11 with (fail)
  by_cases q3 : m = 0
  · have v9 : ((m : Int) != 0) = false := bneF (by omega)
    have HZ5 : Hid (dgOpen [s0, s1, s2, s3] [d0, d1, d2, d3] l = (⟨numAt l 0, numAt l 2, tk.drop 8⟩, 0)) := HZ4.out.trans (if_neg (fun h => h.1 q3))
    clear q3
    · skip
      apply wp_region_relyQ (fun i => !(List.contains [4, 5, 6, 7, 8, 9, 10, 11, 12, 13] i)) (fun _ => False) (RL [Is _, Is (.int .i64 (m : Int)), Is (.bool false), Is (.bool false), Is undef, Is undef, Is undef, Is undef, Is undef, Is undef, Is undef, Is undef, Is undef, Is undef, Is (.bool false)]) [false, false, false, false, false, false, false, false, false, false, false, false, false, false, false, false, false, false, false, false, false, false, false, false, false, false, false, false, false, true, true, true, true, true, true, true, true, true, true, true, true, true, true, true, false, false, false, false, false, false, false, false, false, false, false, false]
      · kernel_rfl
      · kernel_rfl
      · kernel_rfl
      · refine ⟨?_, ?_, ?_, ?_, ?_, ?_, ?_, ?_, ?_, ?_, ?_, ?_, ?_, ?_, ?_, trivial⟩
        · refine ⟨rfl, ?_⟩
          refine (if_pos (by decide)).mpr ?_
          intro ev w' hC hc hf hb hr K hK
          have e0 : ev (.tmp 0) = _ := hb 0 (by kernel_rfl)
          have HK := Lib.hid hK
          have HC := Lib.hid hC
          clear hb hr hK hC hf
          unfold Run
          simp [execOp, Upon, go_sem, *]
          exact HK.out _ _ (.inl (Below.refl _ _)) rfl
        · refine ⟨rfl, ?_⟩
          refine (if_pos (by decide)).mpr ?_
          intro ev w' hC hc hf hb hr K hK
          have e29 := hr 0 _ rfl (by kernel_rfl)
          change ev (.tmp 29) = _ at e29
          have HK := Lib.hid hK
          have HC := Lib.hid hC
          clear hb hr hK hC
          unfold Run
          simp [execOp, Upon, go_sem, *]
          refine (num_any l 6 _ (by omega) HL63.out).mono ?_
          rintro e w2 ⟨rfl, hb⟩
          exact ⟨_, rfl, HK.out _ _ (.inl hb) (by show _ = _; rw [HM.out])⟩
        · refine ⟨rfl, ?_⟩
          refine (if_pos (by decide)).mpr ?_
          intro ev w' hC hc hf hb hr K hK
          have e30 := hr 1 _ rfl (by kernel_rfl)
          change ev (.tmp 30) = _ at e30
          have HK := Lib.hid hK
          have HC := Lib.hid hC
          clear hb hr hK hC hf
          unfold Run
          simp [execOp, Upon, go_sem, *]
          exact HK.out _ _ (.inl (Below.refl _ _)) rfl
        · refine ⟨rfl, ?_⟩
          refine (if_pos (by decide)).mpr ?_
          intro ev w' hC hc hf hb hr K hK
          have e31 := hr 2 _ rfl (by kernel_rfl)
          change ev (.tmp 31) = _ at e31
          have HK := Lib.hid hK
          have HC := Lib.hid hC
          clear hb hr hK hC hf
          unfold Run
          simp [execOp, Upon, go_sem, *]
          exact HK.out _ _ (.inl (Below.refl _ _)) rfl
        · exact ⟨⟨_, _, rfl, rfl, fun v w h => h⟩, (if_neg (by decide)).mpr fun w => rfl⟩
        · exact ⟨⟨_, _, rfl, rfl, fun v w h => h⟩, (if_neg (by decide)).mpr fun w => rfl⟩
        · exact ⟨⟨_, _, rfl, rfl, fun v w h => h⟩, (if_neg (by decide)).mpr fun w => rfl⟩
        · exact ⟨⟨_, _, rfl, rfl, fun v w h => h⟩, (if_neg (by decide)).mpr fun w => rfl⟩
        · exact ⟨⟨_, _, rfl, rfl, fun v w h => h⟩, (if_neg (by decide)).mpr fun w => rfl⟩
        · exact ⟨⟨_, _, rfl, rfl, fun v w h => h⟩, (if_neg (by decide)).mpr fun w => rfl⟩
        · exact ⟨⟨_, _, rfl, rfl, fun v w h => h⟩, (if_neg (by decide)).mpr fun w => rfl⟩
        · exact ⟨⟨_, _, rfl, rfl, fun v w h => h⟩, (if_neg (by decide)).mpr fun w => rfl⟩
        · exact ⟨⟨_, _, rfl, rfl, fun v w h => h⟩, (if_neg (by decide)).mpr fun w => rfl⟩
        · exact ⟨⟨_, _, rfl, rfl, fun v w h => h⟩, (if_neg (by decide)).mpr fun w => rfl⟩
        · refine ⟨rfl, ?_⟩
          refine (if_pos (by decide)).mpr ?_
          intro ev w' hC hc hf hb hr K hK
          have e32 := hr 3 _ rfl (by kernel_rfl)
          have e42 := hr 13 _ rfl (by kernel_rfl)
          change ev (.tmp 32) = _ at e32
          change ev (.tmp 42) = _ at e42
          have HK := Lib.hid hK
          have HC := Lib.hid hC
          clear hb hr hK hC hf
          unfold Run
          simp [execOp, Upon, go_sem, *]
          exact HK.out _ _ (.inl (Below.refl _ _)) rfl
      · exact rl_mono ⟨is_mono _, is_mono _, is_mono _, is_mono _, is_mono _, is_mono _, is_mono _, is_mono _, is_mono _, is_mono _, is_mono _, is_mono _, is_mono _, is_mono _, is_mono _, trivial⟩
      intro us wr hG hH
      obtain ⟨-, -, -, -, -, -, -, -, -, -, -, -, -, -, h14, -⟩ := hH
      simp only [fillM]
      change us 43 = _ at h14
      rw [h14]
      clear h14
      generalize us 29 = v29
      generalize us 30 = v30
      generalize us 31 = v31
      generalize us 32 = v32
      generalize us 33 = v33
      generalize us 34 = v34
      generalize us 35 = v35
      generalize us 36 = v36
      generalize us 37 = v37
      generalize us 38 = v38
      generalize us 39 = v39
      generalize us 40 = v40
      generalize us 41 = v41
      generalize us 42 = v42
      have HBw : Hid (Below w.heap.size w wr) := HB3.out.trans (hG.belowF.mono HB3.out.size)
      have HGSw := Lib.hid ((hG.block _ (row_lt HGS3.out) (fun h => h)).trans HGS3.out)
      have HGDw := Lib.hid ((hG.block _ (row_lt HGD3.out) (fun h => h)).trans HGD3.out)
      have HGZw := Lib.hid ((hG.block _ (row_lt HGZ3.out) (fun h => h)).trans HGZ3.out)
      have HGNw := Lib.hid ((hG.block _ (row_lt HGN3.out) (fun h => h)).trans HGN3.out)
      clear hG
      obtain ⟨w6, hw6⟩ : ∃ w6, wr = w6 := ⟨_, rfl⟩
      subst hw6
      obtain ⟨a, ha⟩ : ∃ a, numAt l 0 = a := ⟨_, rfl⟩
      obtain ⟨b, hb⟩ : ∃ b, numAt l 2 = b := ⟨_, rfl⟩
      obtain ⟨data, hdata⟩ : ∃ data, tk.drop 8 = data := ⟨_, rfl⟩
      have hal := numAt_lt l 0
      have hbl := numAt_lt l 2
      have hdl : data.length ≤ 1000 := by rw [← hdata, List.length_drop, ← HTKL.out, List.length_take]; omega
      have hex := ba_take l 8 n
      rw [HTKL.out, hdata] at hex
      have HEX := Lib.hid hex
      rw [ha] at hal
      rw [hb] at hbl
      have hz5 := HZ5.out
      rw [ha, hb, hdata] at hz5
      have HZ6 := Lib.hid hz5
      have HA := Lib.hid ha
      have HB := Lib.hid hb
      have HDL : Hid (data.length ≤ 1000000000) := by show _ ≤ _; omega
      have HU1 : Hid (IntKind.u16.wrap (a : Int) = (a : Int)) := IntWalk.u16_in _ ⟨by omega, by omega⟩
      have HU2 : Hid (IntKind.u16.wrap (b : Int) = (b : Int)) := IntWalk.u16_in _ ⟨by omega, by omega⟩
      have HOKX : Hid (a < 65536 ∧ b < 65536) := ⟨hal, hbl⟩
      have HGG := HGZw
      have HGB : Hid (w.heap.size + 2 < wr.heap.size) := row_lt HGZw.out
      have v7 : (8 : Int) ≤ (n : Int) := v2
      have v8 : 8 ≤ n := by omega
      clear ha hb hdata hal hbl hdl hex hz5
      go_upto_region 13 with (fail)
      apply wp_region_rely (· = w.heap.size + 2) (RL [Is _, Is (.int .i64 (a : Int)), Is (.int .u16 (a : Int)), Is _, Is (.int .i64 (b : Int)), Is (.int .u16 (b : Int)), Is _, Is _, Is (txt data), Fresh wr.heap.size data, DgV wr.heap.size ⟨a, b, data⟩, DgS wr.heap.size (w.heap.size + 2) ⟨a, b, data⟩, Is (.int .i64 0)]) [false, false, false, false, false, false, false, true, false, false, false, false, false, false, false, false, false, false, false, false, false, false, false, false, false, false, false, false, false, false, false, false, false, false, false, false, false, false, false, false, false, false, false, false, false, true, true, true, true, true, true, true, true, true, true, true]
      · kernel_rfl
      · kernel_rfl
      · kernel_rfl
      · refine ⟨?_, ?_, ?_, ?_, ?_, ?_, ?_, ?_, ?_, ?_, ?_, ?_, ?_, trivial⟩
        · intro ev w' hC hc hf hb hr K hK
          have e0 : ev (.tmp 0) = _ := hb 0 (by kernel_rfl)
          have HK := Lib.hid hK
          have HC := Lib.hid hC
          clear hb hr hK hC hf
          unfold Run
          simp [execOp, Upon, go_sem, *]
          exact HK.out _ _ (.inl (Below.refl _ _)) rfl
        · intro ev w' hC hc hf hb hr K hK
          have e45 := hr 0 _ rfl (by kernel_rfl)
          change ev (.tmp 45) = _ at e45
          have HK := Lib.hid hK
          have HC := Lib.hid hC
          clear hb hr hK hC
          unfold Run
          simp [execOp, Upon, go_sem, *]
          refine (num_any l 0 _ (by omega) HL63.out).mono ?_
          rintro e w2 ⟨rfl, hb⟩
          exact ⟨_, rfl, HK.out _ _ (.inl hb) (by show _ = _; rw [HA.out])⟩
        · intro ev w' hC hc hf hb hr K hK
          have e46 := hr 1 _ rfl (by kernel_rfl)
          change ev (.tmp 46) = _ at e46
          have HK := Lib.hid hK
          have HC := Lib.hid hC
          clear hb hr hK hC hf
          unfold Run
          simp [execOp, Upon, go_sem, *]
          exact HK.out _ _ (.inl (Below.refl _ _)) (by show Value.int _ _ = Value.int _ _; congr 1; first | done | exact HU1.out)
        · intro ev w' hC hc hf hb hr K hK
          have e0 : ev (.tmp 0) = _ := hb 0 (by kernel_rfl)
          have HK := Lib.hid hK
          have HC := Lib.hid hC
          clear hb hr hK hC hf
          unfold Run
          simp [execOp, Upon, go_sem, *]
          exact HK.out _ _ (.inl (Below.refl _ _)) rfl
        · intro ev w' hC hc hf hb hr K hK
          have e48 := hr 3 _ rfl (by kernel_rfl)
          change ev (.tmp 48) = _ at e48
          have HK := Lib.hid hK
          have HC := Lib.hid hC
          clear hb hr hK hC
          unfold Run
          simp [execOp, Upon, go_sem, *]
          refine (num_any l 2 _ (by omega) HL63.out).mono ?_
          rintro e w2 ⟨rfl, hb⟩
          exact ⟨_, rfl, HK.out _ _ (.inl hb) (by show _ = _; rw [HB.out])⟩
        · intro ev w' hC hc hf hb hr K hK
          have e49 := hr 4 _ rfl (by kernel_rfl)
          change ev (.tmp 49) = _ at e49
          have HK := Lib.hid hK
          have HC := Lib.hid hC
          clear hb hr hK hC hf
          unfold Run
          simp [execOp, Upon, go_sem, *]
          exact HK.out _ _ (.inl (Below.refl _ _)) (by show Value.int _ _ = Value.int _ _; congr 1; first | done | exact HU2.out)
        · intro ev w' hC hc hf hb hr K hK
          have e0 : ev (.tmp 0) = _ := hb 0 (by kernel_rfl)
          have HK := Lib.hid hK
          have HC := Lib.hid hC
          clear hb hr hK hC hf
          unfold Run
          simp [execOp, Upon, go_sem, *]
          exact HK.out _ _ (.inl (Below.refl _ _)) rfl
        · intro ev w' hC hc hf hb hr K hK
          have e9 : ev (.tmp 9) = _ := hb 9 (by kernel_rfl)
          have HK := Lib.hid hK
          have HC := Lib.hid hC
          clear hb hr hK hC hf
          unfold Run
          simp [execOp, Upon, go_sem, *]
          exact HK.out _ _ (.inl (Below.refl _ _)) rfl
        · intro ev w' hC hc hf hb hr K hK
          have e51 := hr 6 _ rfl (by kernel_rfl)
          have e52 := hr 7 _ rfl (by kernel_rfl)
          change ev (.tmp 51) = _ at e51
          change ev (.tmp 52) = _ at e52
          have HK := Lib.hid hK
          have HC := Lib.hid hC
          clear hb hr hK hC hf
          unfold Run
          simp [execOp, Upon, go_sem, *]
          exact HK.out _ _ (.inl (Below.refl _ _)) (by show Value.string _ = Value.string _; congr 1; first | done | exact HEX.out)
        · intro ev w' hC hc hf hb hr K hK
          have e53 := hr 8 _ rfl (by kernel_rfl)
          change ev (.tmp 53) = _ at e53
          have HK := Lib.hid hK
          have HC := Lib.hid hC
          clear hb hr hK hC hf
          have kb := run_bytes w' data data.length rfl
          have HCAP := Lib.hid (cap_ok w' data.length HDL.out)
          unfold Run
          simp [execOp, Upon, go_sem, *]
          exact HK.out _ _ (.inl (bw_below (Below.refl _ _) (Nat.le_refl _) _)) ⟨_, _, rfl, ((bw_rd w' data).wide HC.out.size (by rw [bw_size]; exact Nat.le_refl _)), (fun h => by cases h), HCAP.out⟩
        · intro ev w' hC hc hf hb hr K hK
          have e47 := hr 2 _ rfl (by kernel_rfl)
          have e50 := hr 5 _ rfl (by kernel_rfl)
          have e54 := hr 9 _ rfl (by kernel_rfl)
          change ev (.tmp 47) = _ at e47
          change ev (.tmp 50) = _ at e50
          change (Fresh wr.heap.size data : Pred) (ev (.tmp 54)) _ at e54
          have HK := Lib.hid hK
          have HC := Lib.hid hC
          clear hb hr hK hC hf
          obtain ⟨A7, c7, q7, r7⟩ := e54
          have R7 := Lib.hid r7
          clear r7
          unfold Run
          simp [execOp, Upon, go_sem, *]
          exact HK.out _ _ (.inl (Below.refl _ _)) ⟨A7, c7, rfl, R7.out⟩
        · intro ev w' hC hc hf hb hr K hK
          have e6 : ev (.tmp 6) = _ := hb 6 (by kernel_rfl)
          have e55 := hr 10 _ rfl (by kernel_rfl)
          change (DgV wr.heap.size ⟨a, b, data⟩ : Pred) (ev (.tmp 55)) _ at e55
          have HK := Lib.hid hK
          have HC := Lib.hid hC
          clear hb hr hK hC hf
          obtain ⟨A7, c7, q7, r7⟩ := e55
          obtain ⟨old, hold, hsz⟩ := HC.out.shape (w.heap.size + 2) _ _ _ HGG.out
          have hst := run_storeVar_row (P := Try.prog) w' (w.heap.size + 2) 43 43 old #[.int .u16 (a : Int), .int .u16 (b : Int), .slice A7 data.length c7] hold (by kernel_rfl) (by rw [hsz]; rfl) (by kernel_rfl)
          unfold Run
          rw [run_storeE 43 _ _ rfl e6 q7 hst]
          refine HK.out _ _ (.inr ⟨Gro.setRow hold _ (by rw [hsz]; rfl), fun j hj u hr => rl_st (g := w.heap.size + 2) (i := 11) 0 (by exact ⟨.inr (is_st _ _), .inr (is_st _ _), .inr (is_st _ _), .inr (is_st _ _), .inr (is_st _ _), .inr (is_st _ _), .inr (is_st _ _), .inr (is_st _ _), .inr (is_st _ _), .inr (fresh_st HGB.out _), .inr (dgV_st HGB.out _), .inl rfl, .inr (is_st _ _), trivial⟩) j u _ _ (by omega) (Gro.setRow hold _ (by rw [hsz]; rfl)) hr⟩) ⟨A7, c7, setRow_heap _ _ _ _ _ _ hold, ?_⟩
          exact r7.setRow HGB.out _
        · intro ev w' hC hc hf hb hr K hK
          have HK := Lib.hid hK
          have HC := Lib.hid hC
          clear hb hr hK hC hf
          unfold Run
          simp [execOp, Upon, go_sem, *]
          exact HK.out _ _ (.inl (Below.refl _ _)) rfl
      · exact rl_mono ⟨is_mono _, is_mono _, is_mono _, is_mono _, is_mono _, is_mono _, is_mono _, is_mono _, is_mono _, fresh_mono _ _, dgV_mono _ _, dgS_mono _ _ _, is_mono _, trivial⟩
      intro us2 ws hG hH
      obtain ⟨-, -, -, -, -, -, -, -, -, -, -, h11, h12, -⟩ := hH
      simp only [fillM]
      change (DgS wr.heap.size (w.heap.size + 2) ⟨a, b, data⟩ : Pred) undef ws at h11
      change us2 7 = _ at h12
      rw [h12]
      clear h12
      generalize us2 45 = v45
      generalize us2 46 = v46
      generalize us2 47 = v47
      generalize us2 48 = v48
      generalize us2 49 = v49
      generalize us2 50 = v50
      generalize us2 51 = v51
      generalize us2 52 = v52
      generalize us2 53 = v53
      generalize us2 54 = v54
      generalize us2 55 = v55
      obtain ⟨A7, c7, hgp, hbk⟩ := h11
      have HGP := Lib.hid hgp
      have HBK := Lib.hid hbk
      have HBF : Hid (Below w.heap.size w ws) := HBw.out.trans (hG.below (fun k hk => by omega) HBw.out.size)
      clear hgp hbk hG
      go_wp2_with fail
      (try simp only [Exit.inBlock, Exit.then])
      refine ret_row (g := w.heap.size + 2) rfl rfl (load_dg HGP.out rfl) rfl ?_
      rw [HZ6.out]
      exact ⟨_, rfl, ⟨A7, c7, rfl, HOKX.out, HBK.out.1.wide (Nat.le_trans (by omega) (Nat.le_of_lt HGB.out)) (Nat.le_refl _), HBK.out.2.2.1, HBK.out.2.2.2, HBK.out.2.1⟩, HBF.out⟩
  · have v9 : ((m : Int) != 0) = true := bneT (by omega)
    by_cases q4 : sm = 65535
    · have v10 : ((sm : Int) != 65535) = false := bneF (by omega)
      have HZ5 : Hid (dgOpen [s0, s1, s2, s3] [d0, d1, d2, d3] l = (⟨numAt l 0, numAt l 2, tk.drop 8⟩, 0)) := HZ4.out.trans (if_neg (fun h => h.2 q4))
      clear q3 q4
      apply wp_region_relyQ (fun _ => true) (fun _ => False) (RL [Is _, Is (.int .i64 (m : Int)), Is (.bool true), Is (.bool true), Is (.agg #[.int .u8 (s0.toNat : Int), .int .u8 (s1.toNat : Int), .int .u8 (s2.toNat : Int), .int .u8 (s3.toNat : Int)]), Is (.agg #[.int .u8 (d0.toNat : Int), .int .u8 (d1.toNat : Int), .int .u8 (d2.toNat : Int), .int .u8 (d3.toNat : Int)]), Is _, Is (txt ps), Is _, Is _, Is (txt tk), Is (txt (ps ++ tk)), Is (.int .u16 (sm : Int)), Is (.bool false), Is (.bool false)]) [false, false, false, false, false, false, false, false, false, false, false, false, false, false, false, false, false, false, false, false, false, false, false, false, false, false, false, false, false, true, true, true, true, true, true, true, true, true, true, true, true, true, true, true, false, false, false, false, false, false, false, false, false, false, false, false]
      · kernel_rfl
      · kernel_rfl
      · kernel_rfl
      · refine ⟨?_, ?_, ?_, ?_, ?_, ?_, ?_, ?_, ?_, ?_, ?_, ?_, ?_, ?_, ?_, trivial⟩
        · refine ⟨rfl, ?_⟩
          refine (if_pos (by decide)).mpr ?_
          intro ev w' hC hc hf hb hr K hK
          have e0 : ev (.tmp 0) = _ := hb 0 (by kernel_rfl)
          have HK := Lib.hid hK
          have HC := Lib.hid hC
          clear hb hr hK hC hf
          unfold Run
          simp [execOp, Upon, go_sem, *]
          exact HK.out _ _ (.inl (Below.refl _ _)) rfl
        · refine ⟨rfl, ?_⟩
          refine (if_pos (by decide)).mpr ?_
          intro ev w' hC hc hf hb hr K hK
          have e29 := hr 0 _ rfl (by kernel_rfl)
          change ev (.tmp 29) = _ at e29
          have HK := Lib.hid hK
          have HC := Lib.hid hC
          clear hb hr hK hC
          unfold Run
          simp [execOp, Upon, go_sem, *]
          refine (num_any l 6 _ (by omega) HL63.out).mono ?_
          rintro e w2 ⟨rfl, hb⟩
          exact ⟨_, rfl, HK.out _ _ (.inl hb) (by show _ = _; rw [HM.out])⟩
        · refine ⟨rfl, ?_⟩
          refine (if_pos (by decide)).mpr ?_
          intro ev w' hC hc hf hb hr K hK
          have e30 := hr 1 _ rfl (by kernel_rfl)
          change ev (.tmp 30) = _ at e30
          have HK := Lib.hid hK
          have HC := Lib.hid hC
          clear hb hr hK hC hf
          unfold Run
          simp [execOp, Upon, go_sem, *]
          exact HK.out _ _ (.inl (Below.refl _ _)) rfl
        · refine ⟨rfl, ?_⟩
          refine (if_pos (by decide)).mpr ?_
          intro ev w' hC hc hf hb hr K hK
          have e31 := hr 2 _ rfl (by kernel_rfl)
          change ev (.tmp 31) = _ at e31
          have HK := Lib.hid hK
          have HC := Lib.hid hC
          clear hb hr hK hC hf
          unfold Run
          simp [execOp, Upon, go_sem, *]
          exact HK.out _ _ (.inl (Below.refl _ _)) rfl
        · refine ⟨⟨_, _, rfl, rfl, fun v w h => h⟩, ?_⟩
          refine (if_pos (by decide)).mpr ?_
          intro ev w' hC hc hf hb hr K hK
          have e4 : ev (.tmp 4) = _ := hb 4 (by kernel_rfl)
          have HK := Lib.hid hK
          have HC := Lib.hid hC
          clear hb hr hK hC hf
          have q1 : ev (.tmp 4) = .pointer (some ⟨w.heap.size, 0, none⟩) := e4
          have hld := run_loadVar_row (P := Try.prog) w' (w.heap.size) 27 27 #[.int .u8 (s0.toNat : Int), .int .u8 (s1.toNat : Int), .int .u8 (s2.toNat : Int), .int .u8 (s3.toNat : Int)] (0, 0) _ ((HC.out.block _ (row_lt HGS3.out) (fun h => h)).trans HGS3.out) Try.underlying27 rfl (by kernel_rfl)
          unfold Run
          rw [run_loadE 27 _ rfl q1 hld]
          exact HK.out _ _ (.inl (Below.refl _ _)) rfl
        · refine ⟨⟨_, _, rfl, rfl, fun v w h => h⟩, ?_⟩
          refine (if_pos (by decide)).mpr ?_
          intro ev w' hC hc hf hb hr K hK
          have e5 : ev (.tmp 5) = _ := hb 5 (by kernel_rfl)
          have HK := Lib.hid hK
          have HC := Lib.hid hC
          clear hb hr hK hC hf
          have q1 : ev (.tmp 5) = .pointer (some ⟨w.heap.size + 1, 0, none⟩) := e5
          have hld := run_loadVar_row (P := Try.prog) w' (w.heap.size + 1) 27 27 #[.int .u8 (d0.toNat : Int), .int .u8 (d1.toNat : Int), .int .u8 (d2.toNat : Int), .int .u8 (d3.toNat : Int)] (0, 0) _ ((HC.out.block _ (row_lt HGD3.out) (fun h => h)).trans HGD3.out) Try.underlying27 rfl (by kernel_rfl)
          unfold Run
          rw [run_loadE 27 _ rfl q1 hld]
          exact HK.out _ _ (.inl (Below.refl _ _)) rfl
        · refine ⟨⟨_, _, rfl, rfl, fun v w h => h⟩, ?_⟩
          refine (if_pos (by decide)).mpr ?_
          intro ev w' hC hc hf hb hr K hK
          have e9 : ev (.tmp 9) = _ := hb 9 (by kernel_rfl)
          have HK := Lib.hid hK
          have HC := Lib.hid hC
          clear hb hr hK hC hf
          unfold Run
          simp [execOp, Upon, go_sem, *]
          exact HK.out _ _ (.inl (Below.refl _ _)) rfl
        · refine ⟨⟨_, _, rfl, rfl, fun v w h => h⟩, ?_⟩
          refine (if_pos (by decide)).mpr ?_
          intro ev w' hC hc hf hb hr K hK
          have e33 := hr 4 _ rfl (by kernel_rfl)
          have e34 := hr 5 _ rfl (by kernel_rfl)
          have e35 := hr 6 _ rfl (by kernel_rfl)
          change ev (.tmp 33) = _ at e33
          change ev (.tmp 34) = _ at e34
          change ev (.tmp 35) = _ at e35
          have HK := Lib.hid hK
          have HC := Lib.hid hC
          clear hb hr hK hC
          unfold Run
          simp [execOp, Upon, go_sem, *]
          have hps := refpseudo_any s0 s1 s2 s3 d0 d1 d2 d3 17 n w' (by omega)
          rw [HPS.out] at hps
          refine hps.mono ?_
          rintro e w2 ⟨rfl, hb⟩
          exact ⟨_, rfl, HK.out _ _ (.inl hb) rfl⟩
        · refine ⟨⟨_, _, rfl, rfl, fun v w h => h⟩, ?_⟩
          refine (if_pos (by decide)).mpr ?_
          intro ev w' hC hc hf hb hr K hK
          have e0 : ev (.tmp 0) = _ := hb 0 (by kernel_rfl)
          have HK := Lib.hid hK
          have HC := Lib.hid hC
          clear hb hr hK hC hf
          unfold Run
          simp [execOp, Upon, go_sem, *]
          exact HK.out _ _ (.inl (Below.refl _ _)) rfl
        · refine ⟨⟨_, _, rfl, rfl, fun v w h => h⟩, ?_⟩
          refine (if_pos (by decide)).mpr ?_
          intro ev w' hC hc hf hb hr K hK
          have e9 : ev (.tmp 9) = _ := hb 9 (by kernel_rfl)
          have HK := Lib.hid hK
          have HC := Lib.hid hC
          clear hb hr hK hC hf
          unfold Run
          simp [execOp, Upon, go_sem, *]
          exact HK.out _ _ (.inl (Below.refl _ _)) rfl
        · refine ⟨⟨_, _, rfl, rfl, fun v w h => h⟩, ?_⟩
          refine (if_pos (by decide)).mpr ?_
          intro ev w' hC hc hf hb hr K hK
          have e37 := hr 8 _ rfl (by kernel_rfl)
          have e38 := hr 9 _ rfl (by kernel_rfl)
          change ev (.tmp 37) = _ at e37
          change ev (.tmp 38) = _ at e38
          have HK := Lib.hid hK
          have HC := Lib.hid hC
          clear hb hr hK hC hf
          unfold Run
          simp [execOp, Upon, go_sem, *]
          exact HK.out _ _ (.inl (Below.refl _ _)) (by show Value.string _ = Value.string _; congr 1; first | done | exact HTK.out)
        · refine ⟨⟨_, _, rfl, rfl, fun v w h => h⟩, ?_⟩
          refine (if_pos (by decide)).mpr ?_
          intro ev w' hC hc hf hb hr K hK
          have e36 := hr 7 _ rfl (by kernel_rfl)
          have e39 := hr 10 _ rfl (by kernel_rfl)
          change ev (.tmp 36) = _ at e36
          change ev (.tmp 39) = _ at e39
          have HK := Lib.hid hK
          have HC := Lib.hid hC
          clear hb hr hK hC hf
          unfold Run
          simp [execOp, Upon, go_sem, *]
          show K (Value.string ((⟨ps.toArray⟩ : ByteArray) ++ ⟨tk.toArray⟩)) w'
          rw [HAP.out]
          exact HK.out _ _ (.inl (Below.refl _ _)) rfl
        · refine ⟨⟨_, _, rfl, rfl, fun v w h => h⟩, ?_⟩
          refine (if_pos (by decide)).mpr ?_
          intro ev w' hC hc hf hb hr K hK
          have e40 := hr 11 _ rfl (by kernel_rfl)
          change ev (.tmp 40) = _ at e40
          have HK := Lib.hid hK
          have HC := Lib.hid hC
          clear hb hr hK hC
          unfold Run
          simp [execOp, Upon, go_sem, *]
          refine (reffold_any (ps ++ tk) _ HLL.out).mono ?_
          rw [HSM.out]
          rintro e w2 ⟨rfl, rfl⟩
          exact ⟨_, rfl, HK.out _ _ (.inl (Below.refl _ _)) rfl⟩
        · refine ⟨⟨_, _, rfl, rfl, fun v w h => h⟩, ?_⟩
          refine (if_pos (by decide)).mpr ?_
          intro ev w' hC hc hf hb hr K hK
          have e41 := hr 12 _ rfl (by kernel_rfl)
          change ev (.tmp 41) = _ at e41
          have HK := Lib.hid hK
          have HC := Lib.hid hC
          clear hb hr hK hC hf
          unfold Run
          simp [execOp, Upon, go_sem, *]
          exact HK.out _ _ (.inl (Below.refl _ _)) rfl
        · refine ⟨rfl, ?_⟩
          refine (if_pos (by decide)).mpr ?_
          intro ev w' hC hc hf hb hr K hK
          have e32 := hr 3 _ rfl (by kernel_rfl)
          have e42 := hr 13 _ rfl (by kernel_rfl)
          change ev (.tmp 32) = _ at e32
          change ev (.tmp 42) = _ at e42
          have HK := Lib.hid hK
          have HC := Lib.hid hC
          clear hb hr hK hC hf
          unfold Run
          simp [execOp, Upon, go_sem, *]
          exact HK.out _ _ (.inl (Below.refl _ _)) rfl
      · exact rl_mono ⟨is_mono _, is_mono _, is_mono _, is_mono _, is_mono _, is_mono _, is_mono _, is_mono _, is_mono _, is_mono _, is_mono _, is_mono _, is_mono _, is_mono _, is_mono _, trivial⟩
      intro us wr hG hH
      obtain ⟨-, -, -, -, -, -, -, -, -, -, -, -, -, -, h14, -⟩ := hH
      simp only [fillM]
      change us 43 = _ at h14
      rw [h14]
      clear h14
      generalize us 29 = v29
      generalize us 30 = v30
      generalize us 31 = v31
      generalize us 32 = v32
      generalize us 33 = v33
      generalize us 34 = v34
      generalize us 35 = v35
      generalize us 36 = v36
      generalize us 37 = v37
      generalize us 38 = v38
      generalize us 39 = v39
      generalize us 40 = v40
      generalize us 41 = v41
      generalize us 42 = v42
      have HBw : Hid (Below w.heap.size w wr) := HB3.out.trans (hG.belowF.mono HB3.out.size)
      have HGSw := Lib.hid ((hG.block _ (row_lt HGS3.out) (fun h => h)).trans HGS3.out)
      have HGDw := Lib.hid ((hG.block _ (row_lt HGD3.out) (fun h => h)).trans HGD3.out)
      have HGZw := Lib.hid ((hG.block _ (row_lt HGZ3.out) (fun h => h)).trans HGZ3.out)
      have HGNw := Lib.hid ((hG.block _ (row_lt HGN3.out) (fun h => h)).trans HGN3.out)
      clear hG
      obtain ⟨w6, hw6⟩ : ∃ w6, wr = w6 := ⟨_, rfl⟩
      subst hw6
      obtain ⟨a, ha⟩ : ∃ a, numAt l 0 = a := ⟨_, rfl⟩
      obtain ⟨b, hb⟩ : ∃ b, numAt l 2 = b := ⟨_, rfl⟩
      obtain ⟨data, hdata⟩ : ∃ data, tk.drop 8 = data := ⟨_, rfl⟩
      have hal := numAt_lt l 0
      have hbl := numAt_lt l 2
      have hdl : data.length ≤ 1000 := by rw [← hdata, List.length_drop, ← HTKL.out, List.length_take]; omega
      have hex := ba_take l 8 n
      rw [HTKL.out, hdata] at hex
      have HEX := Lib.hid hex
      rw [ha] at hal
      rw [hb] at hbl
      have hz5 := HZ5.out
      rw [ha, hb, hdata] at hz5
      have HZ6 := Lib.hid hz5
      have HA := Lib.hid ha
      have HB := Lib.hid hb
      have HDL : Hid (data.length ≤ 1000000000) := by show _ ≤ _; omega
      have HU1 : Hid (IntKind.u16.wrap (a : Int) = (a : Int)) := IntWalk.u16_in _ ⟨by omega, by omega⟩
      have HU2 : Hid (IntKind.u16.wrap (b : Int) = (b : Int)) := IntWalk.u16_in _ ⟨by omega, by omega⟩
      have HOKX : Hid (a < 65536 ∧ b < 65536) := ⟨hal, hbl⟩
      have HGG := HGZw
      have HGB : Hid (w.heap.size + 2 < wr.heap.size) := row_lt HGZw.out
      have v7 : (8 : Int) ≤ (n : Int) := v2
      have v8 : 8 ≤ n := by omega
      clear ha hb hdata hal hbl hdl hex hz5
      go_upto_region 13 with (fail)
      apply wp_region_rely (· = w.heap.size + 2) (RL [Is _, Is (.int .i64 (a : Int)), Is (.int .u16 (a : Int)), Is _, Is (.int .i64 (b : Int)), Is (.int .u16 (b : Int)), Is _, Is _, Is (txt data), Fresh wr.heap.size data, DgV wr.heap.size ⟨a, b, data⟩, DgS wr.heap.size (w.heap.size + 2) ⟨a, b, data⟩, Is (.int .i64 0)]) [false, false, false, false, false, false, false, true, false, false, false, false, false, false, false, false, false, false, false, false, false, false, false, false, false, false, false, false, false, false, false, false, false, false, false, false, false, false, false, false, false, false, false, false, false, true, true, true, true, true, true, true, true, true, true, true]
      · kernel_rfl
      · kernel_rfl
      · kernel_rfl
      · refine ⟨?_, ?_, ?_, ?_, ?_, ?_, ?_, ?_, ?_, ?_, ?_, ?_, ?_, trivial⟩
        · intro ev w' hC hc hf hb hr K hK
          have e0 : ev (.tmp 0) = _ := hb 0 (by kernel_rfl)
          have HK := Lib.hid hK
          have HC := Lib.hid hC
          clear hb hr hK hC hf
          unfold Run
          simp [execOp, Upon, go_sem, *]
          exact HK.out _ _ (.inl (Below.refl _ _)) rfl
        · intro ev w' hC hc hf hb hr K hK
          have e45 := hr 0 _ rfl (by kernel_rfl)
          change ev (.tmp 45) = _ at e45
          have HK := Lib.hid hK
          have HC := Lib.hid hC
          clear hb hr hK hC
          unfold Run
          simp [execOp, Upon, go_sem, *]
          refine (num_any l 0 _ (by omega) HL63.out).mono ?_
          rintro e w2 ⟨rfl, hb⟩
          exact ⟨_, rfl, HK.out _ _ (.inl hb) (by show _ = _; rw [HA.out])⟩
        · intro ev w' hC hc hf hb hr K hK
          have e46 := hr 1 _ rfl (by kernel_rfl)
          change ev (.tmp 46) = _ at e46
          have HK := Lib.hid hK
          have HC := Lib.hid hC
          clear hb hr hK hC hf
          unfold Run
          simp [execOp, Upon, go_sem, *]
          exact HK.out _ _ (.inl (Below.refl _ _)) (by show Value.int _ _ = Value.int _ _; congr 1; first | done | exact HU1.out)
        · intro ev w' hC hc hf hb hr K hK
          have e0 : ev (.tmp 0) = _ := hb 0 (by kernel_rfl)
          have HK := Lib.hid hK
          have HC := Lib.hid hC
          clear hb hr hK hC hf
          unfold Run
          simp [execOp, Upon, go_sem, *]
          exact HK.out _ _ (.inl (Below.refl _ _)) rfl
        · intro ev w' hC hc hf hb hr K hK
          have e48 := hr 3 _ rfl (by kernel_rfl)
          change ev (.tmp 48) = _ at e48
          have HK := Lib.hid hK
          have HC := Lib.hid hC
          clear hb hr hK hC
          unfold Run
          simp [execOp, Upon, go_sem, *]
          refine (num_any l 2 _ (by omega) HL63.out).mono ?_
          rintro e w2 ⟨rfl, hb⟩
          exact ⟨_, rfl, HK.out _ _ (.inl hb) (by show _ = _; rw [HB.out])⟩
        · intro ev w' hC hc hf hb hr K hK
          have e49 := hr 4 _ rfl (by kernel_rfl)
          change ev (.tmp 49) = _ at e49
          have HK := Lib.hid hK
          have HC := Lib.hid hC
          clear hb hr hK hC hf
          unfold Run
          simp [execOp, Upon, go_sem, *]
          exact HK.out _ _ (.inl (Below.refl _ _)) (by show Value.int _ _ = Value.int _ _; congr 1; first | done | exact HU2.out)
        · intro ev w' hC hc hf hb hr K hK
          have e0 : ev (.tmp 0) = _ := hb 0 (by kernel_rfl)
          have HK := Lib.hid hK
          have HC := Lib.hid hC
          clear hb hr hK hC hf
          unfold Run
          simp [execOp, Upon, go_sem, *]
          exact HK.out _ _ (.inl (Below.refl _ _)) rfl
        · intro ev w' hC hc hf hb hr K hK
          have e9 : ev (.tmp 9) = _ := hb 9 (by kernel_rfl)
          have HK := Lib.hid hK
          have HC := Lib.hid hC
          clear hb hr hK hC hf
          unfold Run
          simp [execOp, Upon, go_sem, *]
          exact HK.out _ _ (.inl (Below.refl _ _)) rfl
        · intro ev w' hC hc hf hb hr K hK
          have e51 := hr 6 _ rfl (by kernel_rfl)
          have e52 := hr 7 _ rfl (by kernel_rfl)
          change ev (.tmp 51) = _ at e51
          change ev (.tmp 52) = _ at e52
          have HK := Lib.hid hK
          have HC := Lib.hid hC
          clear hb hr hK hC hf
          unfold Run
          simp [execOp, Upon, go_sem, *]
          exact HK.out _ _ (.inl (Below.refl _ _)) (by show Value.string _ = Value.string _; congr 1; first | done | exact HEX.out)
        · intro ev w' hC hc hf hb hr K hK
          have e53 := hr 8 _ rfl (by kernel_rfl)
          change ev (.tmp 53) = _ at e53
          have HK := Lib.hid hK
          have HC := Lib.hid hC
          clear hb hr hK hC hf
          have kb := run_bytes w' data data.length rfl
          have HCAP := Lib.hid (cap_ok w' data.length HDL.out)
          unfold Run
          simp [execOp, Upon, go_sem, *]
          exact HK.out _ _ (.inl (bw_below (Below.refl _ _) (Nat.le_refl _) _)) ⟨_, _, rfl, ((bw_rd w' data).wide HC.out.size (by rw [bw_size]; exact Nat.le_refl _)), (fun h => by cases h), HCAP.out⟩
        · intro ev w' hC hc hf hb hr K hK
          have e47 := hr 2 _ rfl (by kernel_rfl)
          have e50 := hr 5 _ rfl (by kernel_rfl)
          have e54 := hr 9 _ rfl (by kernel_rfl)
          change ev (.tmp 47) = _ at e47
          change ev (.tmp 50) = _ at e50
          change (Fresh wr.heap.size data : Pred) (ev (.tmp 54)) _ at e54
          have HK := Lib.hid hK
          have HC := Lib.hid hC
          clear hb hr hK hC hf
          obtain ⟨A7, c7, q7, r7⟩ := e54
          have R7 := Lib.hid r7
          clear r7
          unfold Run
          simp [execOp, Upon, go_sem, *]
          exact HK.out _ _ (.inl (Below.refl _ _)) ⟨A7, c7, rfl, R7.out⟩
        · intro ev w' hC hc hf hb hr K hK
          have e6 : ev (.tmp 6) = _ := hb 6 (by kernel_rfl)
          have e55 := hr 10 _ rfl (by kernel_rfl)
          change (DgV wr.heap.size ⟨a, b, data⟩ : Pred) (ev (.tmp 55)) _ at e55
          have HK := Lib.hid hK
          have HC := Lib.hid hC
          clear hb hr hK hC hf
          obtain ⟨A7, c7, q7, r7⟩ := e55
          obtain ⟨old, hold, hsz⟩ := HC.out.shape (w.heap.size + 2) _ _ _ HGG.out
          have hst := run_storeVar_row (P := Try.prog) w' (w.heap.size + 2) 43 43 old #[.int .u16 (a : Int), .int .u16 (b : Int), .slice A7 data.length c7] hold (by kernel_rfl) (by rw [hsz]; rfl) (by kernel_rfl)
          unfold Run
          rw [run_storeE 43 _ _ rfl e6 q7 hst]
          refine HK.out _ _ (.inr ⟨Gro.setRow hold _ (by rw [hsz]; rfl), fun j hj u hr => rl_st (g := w.heap.size + 2) (i := 11) 0 (by exact ⟨.inr (is_st _ _), .inr (is_st _ _), .inr (is_st _ _), .inr (is_st _ _), .inr (is_st _ _), .inr (is_st _ _), .inr (is_st _ _), .inr (is_st _ _), .inr (is_st _ _), .inr (fresh_st HGB.out _), .inr (dgV_st HGB.out _), .inl rfl, .inr (is_st _ _), trivial⟩) j u _ _ (by omega) (Gro.setRow hold _ (by rw [hsz]; rfl)) hr⟩) ⟨A7, c7, setRow_heap _ _ _ _ _ _ hold, ?_⟩
          exact r7.setRow HGB.out _
        · intro ev w' hC hc hf hb hr K hK
          have HK := Lib.hid hK
          have HC := Lib.hid hC
          clear hb hr hK hC hf
          unfold Run
          simp [execOp, Upon, go_sem, *]
          exact HK.out _ _ (.inl (Below.refl _ _)) rfl
      · exact rl_mono ⟨is_mono _, is_mono _, is_mono _, is_mono _, is_mono _, is_mono _, is_mono _, is_mono _, is_mono _, fresh_mono _ _, dgV_mono _ _, dgS_mono _ _ _, is_mono _, trivial⟩
      intro us2 ws hG hH
      obtain ⟨-, -, -, -, -, -, -, -, -, -, -, h11, h12, -⟩ := hH
      simp only [fillM]
      change (DgS wr.heap.size (w.heap.size + 2) ⟨a, b, data⟩ : Pred) undef ws at h11
      change us2 7 = _ at h12
      rw [h12]
      clear h12
      generalize us2 45 = v45
      generalize us2 46 = v46
      generalize us2 47 = v47
      generalize us2 48 = v48
      generalize us2 49 = v49
      generalize us2 50 = v50
      generalize us2 51 = v51
      generalize us2 52 = v52
      generalize us2 53 = v53
      generalize us2 54 = v54
      generalize us2 55 = v55
      obtain ⟨A7, c7, hgp, hbk⟩ := h11
      have HGP := Lib.hid hgp
      have HBK := Lib.hid hbk
      have HBF : Hid (Below w.heap.size w ws) := HBw.out.trans (hG.below (fun k hk => by omega) HBw.out.size)
      clear hgp hbk hG
      go_wp2_with fail
      (try simp only [Exit.inBlock, Exit.then])
      refine ret_row (g := w.heap.size + 2) rfl rfl (load_dg HGP.out rfl) rfl ?_
      rw [HZ6.out]
      exact ⟨_, rfl, ⟨A7, c7, rfl, HOKX.out, HBK.out.1.wide (Nat.le_trans (by omega) (Nat.le_of_lt HGB.out)) (Nat.le_refl _), HBK.out.2.2.1, HBK.out.2.2.2, HBK.out.2.1⟩, HBF.out⟩
    · have v10 : ((sm : Int) != 65535) = true := bneT (by omega)
      have HE : Hid (dgOpen [s0, s1, s2, s3] [d0, d1, d2, d3] l = (Dg.zero, 8)) := HZ4.out.trans (if_pos ⟨q3, q4⟩)
      clear q3 q4
      apply wp_region_relyQ (fun _ => true) (fun _ => False) (RL [Is _, Is (.int .i64 (m : Int)), Is (.bool true), Is (.bool true), Is (.agg #[.int .u8 (s0.toNat : Int), .int .u8 (s1.toNat : Int), .int .u8 (s2.toNat : Int), .int .u8 (s3.toNat : Int)]), Is (.agg #[.int .u8 (d0.toNat : Int), .int .u8 (d1.toNat : Int), .int .u8 (d2.toNat : Int), .int .u8 (d3.toNat : Int)]), Is _, Is (txt ps), Is _, Is _, Is (txt tk), Is (txt (ps ++ tk)), Is (.int .u16 (sm : Int)), Is (.bool true), Is (.bool true)]) [false, false, false, false, false, false, false, false, false, false, false, false, false, false, false, false, false, false, false, false, false, false, false, false, false, false, false, false, false, true, true, true, true, true, true, true, true, true, true, true, true, true, true, true, false, false, false, false, false, false, false, false, false, false, false, false]
      · kernel_rfl
      · kernel_rfl
      · kernel_rfl
      · refine ⟨?_, ?_, ?_, ?_, ?_, ?_, ?_, ?_, ?_, ?_, ?_, ?_, ?_, ?_, ?_, trivial⟩
        · refine ⟨rfl, ?_⟩
          refine (if_pos (by decide)).mpr ?_
          intro ev w' hC hc hf hb hr K hK
          have e0 : ev (.tmp 0) = _ := hb 0 (by kernel_rfl)
          have HK := Lib.hid hK
          have HC := Lib.hid hC
          clear hb hr hK hC hf
          unfold Run
          simp [execOp, Upon, go_sem, *]
          exact HK.out _ _ (.inl (Below.refl _ _)) rfl
        · refine ⟨rfl, ?_⟩
          refine (if_pos (by decide)).mpr ?_
          intro ev w' hC hc hf hb hr K hK
          have e29 := hr 0 _ rfl (by kernel_rfl)
          change ev (.tmp 29) = _ at e29
          have HK := Lib.hid hK
          have HC := Lib.hid hC
          clear hb hr hK hC
          unfold Run
          simp [execOp, Upon, go_sem, *]
          refine (num_any l 6 _ (by omega) HL63.out).mono ?_
          rintro e w2 ⟨rfl, hb⟩
          exact ⟨_, rfl, HK.out _ _ (.inl hb) (by show _ = _; rw [HM.out])⟩
        · refine ⟨rfl, ?_⟩
          refine (if_pos (by decide)).mpr ?_
          intro ev w' hC hc hf hb hr K hK
          have e30 := hr 1 _ rfl (by kernel_rfl)
          change ev (.tmp 30) = _ at e30
          have HK := Lib.hid hK
          have HC := Lib.hid hC
          clear hb hr hK hC hf
          unfold Run
          simp [execOp, Upon, go_sem, *]
          exact HK.out _ _ (.inl (Below.refl _ _)) rfl
        · refine ⟨rfl, ?_⟩
          refine (if_pos (by decide)).mpr ?_
          intro ev w' hC hc hf hb hr K hK
          have e31 := hr 2 _ rfl (by kernel_rfl)
          change ev (.tmp 31) = _ at e31
          have HK := Lib.hid hK
          have HC := Lib.hid hC
          clear hb hr hK hC hf
          unfold Run
          simp [execOp, Upon, go_sem, *]
          exact HK.out _ _ (.inl (Below.refl _ _)) rfl
        · refine ⟨⟨_, _, rfl, rfl, fun v w h => h⟩, ?_⟩
          refine (if_pos (by decide)).mpr ?_
          intro ev w' hC hc hf hb hr K hK
          have e4 : ev (.tmp 4) = _ := hb 4 (by kernel_rfl)
          have HK := Lib.hid hK
          have HC := Lib.hid hC
          clear hb hr hK hC hf
          have q1 : ev (.tmp 4) = .pointer (some ⟨w.heap.size, 0, none⟩) := e4
          have hld := run_loadVar_row (P := Try.prog) w' (w.heap.size) 27 27 #[.int .u8 (s0.toNat : Int), .int .u8 (s1.toNat : Int), .int .u8 (s2.toNat : Int), .int .u8 (s3.toNat : Int)] (0, 0) _ ((HC.out.block _ (row_lt HGS3.out) (fun h => h)).trans HGS3.out) Try.underlying27 rfl (by kernel_rfl)
          unfold Run
          rw [run_loadE 27 _ rfl q1 hld]
          exact HK.out _ _ (.inl (Below.refl _ _)) rfl
        · refine ⟨⟨_, _, rfl, rfl, fun v w h => h⟩, ?_⟩
          refine (if_pos (by decide)).mpr ?_
          intro ev w' hC hc hf hb hr K hK
          have e5 : ev (.tmp 5) = _ := hb 5 (by kernel_rfl)
          have HK := Lib.hid hK
          have HC := Lib.hid hC
          clear hb hr hK hC hf
          have q1 : ev (.tmp 5) = .pointer (some ⟨w.heap.size + 1, 0, none⟩) := e5
          have hld := run_loadVar_row (P := Try.prog) w' (w.heap.size + 1) 27 27 #[.int .u8 (d0.toNat : Int), .int .u8 (d1.toNat : Int), .int .u8 (d2.toNat : Int), .int .u8 (d3.toNat : Int)] (0, 0) _ ((HC.out.block _ (row_lt HGD3.out) (fun h => h)).trans HGD3.out) Try.underlying27 rfl (by kernel_rfl)
          unfold Run
          rw [run_loadE 27 _ rfl q1 hld]
          exact HK.out _ _ (.inl (Below.refl _ _)) rfl
        · refine ⟨⟨_, _, rfl, rfl, fun v w h => h⟩, ?_⟩
          refine (if_pos (by decide)).mpr ?_
          intro ev w' hC hc hf hb hr K hK
          have e9 : ev (.tmp 9) = _ := hb 9 (by kernel_rfl)
          have HK := Lib.hid hK
          have HC := Lib.hid hC
          clear hb hr hK hC hf
          unfold Run
          simp [execOp, Upon, go_sem, *]
          exact HK.out _ _ (.inl (Below.refl _ _)) rfl
        · refine ⟨⟨_, _, rfl, rfl, fun v w h => h⟩, ?_⟩
          refine (if_pos (by decide)).mpr ?_
          intro ev w' hC hc hf hb hr K hK
          have e33 := hr 4 _ rfl (by kernel_rfl)
          have e34 := hr 5 _ rfl (by kernel_rfl)
          have e35 := hr 6 _ rfl (by kernel_rfl)
          change ev (.tmp 33) = _ at e33
          change ev (.tmp 34) = _ at e34
          change ev (.tmp 35) = _ at e35
          have HK := Lib.hid hK
          have HC := Lib.hid hC
          clear hb hr hK hC
          unfold Run
          simp [execOp, Upon, go_sem, *]
          have hps := refpseudo_any s0 s1 s2 s3 d0 d1 d2 d3 17 n w' (by omega)
          rw [HPS.out] at hps
          refine hps.mono ?_
          rintro e w2 ⟨rfl, hb⟩
          exact ⟨_, rfl, HK.out _ _ (.inl hb) rfl⟩
        · refine ⟨⟨_, _, rfl, rfl, fun v w h => h⟩, ?_⟩
          refine (if_pos (by decide)).mpr ?_
          intro ev w' hC hc hf hb hr K hK
          have e0 : ev (.tmp 0) = _ := hb 0 (by kernel_rfl)
          have HK := Lib.hid hK
          have HC := Lib.hid hC
          clear hb hr hK hC hf
          unfold Run
          simp [execOp, Upon, go_sem, *]
          exact HK.out _ _ (.inl (Below.refl _ _)) rfl
        · refine ⟨⟨_, _, rfl, rfl, fun v w h => h⟩, ?_⟩
          refine (if_pos (by decide)).mpr ?_
          intro ev w' hC hc hf hb hr K hK
          have e9 : ev (.tmp 9) = _ := hb 9 (by kernel_rfl)
          have HK := Lib.hid hK
          have HC := Lib.hid hC
          clear hb hr hK hC hf
          unfold Run
          simp [execOp, Upon, go_sem, *]
          exact HK.out _ _ (.inl (Below.refl _ _)) rfl
        · refine ⟨⟨_, _, rfl, rfl, fun v w h => h⟩, ?_⟩
          refine (if_pos (by decide)).mpr ?_
          intro ev w' hC hc hf hb hr K hK
          have e37 := hr 8 _ rfl (by kernel_rfl)
          have e38 := hr 9 _ rfl (by kernel_rfl)
          change ev (.tmp 37) = _ at e37
          change ev (.tmp 38) = _ at e38
          have HK := Lib.hid hK
          have HC := Lib.hid hC
          clear hb hr hK hC hf
          unfold Run
          simp [execOp, Upon, go_sem, *]
          exact HK.out _ _ (.inl (Below.refl _ _)) (by show Value.string _ = Value.string _; congr 1; first | done | exact HTK.out)
        · refine ⟨⟨_, _, rfl, rfl, fun v w h => h⟩, ?_⟩
          refine (if_pos (by decide)).mpr ?_
          intro ev w' hC hc hf hb hr K hK
          have e36 := hr 7 _ rfl (by kernel_rfl)
          have e39 := hr 10 _ rfl (by kernel_rfl)
          change ev (.tmp 36) = _ at e36
          change ev (.tmp 39) = _ at e39
          have HK := Lib.hid hK
          have HC := Lib.hid hC
          clear hb hr hK hC hf
          unfold Run
          simp [execOp, Upon, go_sem, *]
          show K (Value.string ((⟨ps.toArray⟩ : ByteArray) ++ ⟨tk.toArray⟩)) w'
          rw [HAP.out]
          exact HK.out _ _ (.inl (Below.refl _ _)) rfl
        · refine ⟨⟨_, _, rfl, rfl, fun v w h => h⟩, ?_⟩
          refine (if_pos (by decide)).mpr ?_
          intro ev w' hC hc hf hb hr K hK
          have e40 := hr 11 _ rfl (by kernel_rfl)
          change ev (.tmp 40) = _ at e40
          have HK := Lib.hid hK
          have HC := Lib.hid hC
          clear hb hr hK hC
          unfold Run
          simp [execOp, Upon, go_sem, *]
          refine (reffold_any (ps ++ tk) _ HLL.out).mono ?_
          rw [HSM.out]
          rintro e w2 ⟨rfl, rfl⟩
          exact ⟨_, rfl, HK.out _ _ (.inl (Below.refl _ _)) rfl⟩
        · refine ⟨⟨_, _, rfl, rfl, fun v w h => h⟩, ?_⟩
          refine (if_pos (by decide)).mpr ?_
          intro ev w' hC hc hf hb hr K hK
          have e41 := hr 12 _ rfl (by kernel_rfl)
          change ev (.tmp 41) = _ at e41
          have HK := Lib.hid hK
          have HC := Lib.hid hC
          clear hb hr hK hC hf
          unfold Run
          simp [execOp, Upon, go_sem, *]
          exact HK.out _ _ (.inl (Below.refl _ _)) rfl
        · refine ⟨rfl, ?_⟩
          refine (if_pos (by decide)).mpr ?_
          intro ev w' hC hc hf hb hr K hK
          have e32 := hr 3 _ rfl (by kernel_rfl)
          have e42 := hr 13 _ rfl (by kernel_rfl)
          change ev (.tmp 32) = _ at e32
          change ev (.tmp 42) = _ at e42
          have HK := Lib.hid hK
          have HC := Lib.hid hC
          clear hb hr hK hC hf
          unfold Run
          simp [execOp, Upon, go_sem, *]
          exact HK.out _ _ (.inl (Below.refl _ _)) rfl
      · exact rl_mono ⟨is_mono _, is_mono _, is_mono _, is_mono _, is_mono _, is_mono _, is_mono _, is_mono _, is_mono _, is_mono _, is_mono _, is_mono _, is_mono _, is_mono _, is_mono _, trivial⟩
      intro us wr hG hH
      obtain ⟨-, -, -, -, -, -, -, -, -, -, -, -, -, -, h14, -⟩ := hH
      simp only [fillM]
      change us 43 = _ at h14
      rw [h14]
      clear h14
      generalize us 29 = v29
      generalize us 30 = v30
      generalize us 31 = v31
      generalize us 32 = v32
      generalize us 33 = v33
      generalize us 34 = v34
      generalize us 35 = v35
      generalize us 36 = v36
      generalize us 37 = v37
      generalize us 38 = v38
      generalize us 39 = v39
      generalize us 40 = v40
      generalize us 41 = v41
      generalize us 42 = v42
      have HBw : Hid (Below w.heap.size w wr) := HB3.out.trans (hG.belowF.mono HB3.out.size)
      have HGSw := Lib.hid ((hG.block _ (row_lt HGS3.out) (fun h => h)).trans HGS3.out)
      have HGDw := Lib.hid ((hG.block _ (row_lt HGD3.out) (fun h => h)).trans HGD3.out)
      have HGZw := Lib.hid ((hG.block _ (row_lt HGZ3.out) (fun h => h)).trans HGZ3.out)
      have HGNw := Lib.hid ((hG.block _ (row_lt HGN3.out) (fun h => h)).trans HGN3.out)
      clear hG
      go_wp2_with (first | refine wpList_load_row rfl 43 _ rfl (w.heap.size + 3) rfl 43 #[.int .u16 0, .int .u16 0, .slice none 0 0] (0, 0) _ HGNw.out Try.underlying43 rfl (by kernel_rfl) ?_ | refine wpList_store_row rfl 43 _ _ rfl (w.heap.size + 2) #[.int .u16 0, .int .u16 0, .slice none 0 0] rfl rfl 43 #[.int .u16 0, .int .u16 0, .slice none 0 0] HGZw.out (by kernel_rfl) rfl (by kernel_rfl) ?_)
      (try simp only [Exit.inBlock, Exit.then])
      refine ret_row (g := (w.heap.size + 2)) (cs := #[.int .u16 0, .int .u16 0, .slice none 0 0]) rfl rfl (load_dg (setRow_heap wr _ _ _ _ _ HGZw.out) rfl) rfl ?_
      rw [HE.out]
      exact ⟨_, rfl, zero_dg _ _ _, below_setRow HBw.out (by omega) _⟩
end Go.Proofs.Ythkpkhhnlenioaa
