/-
  segment.fields: what a head of twenty bytes says; segment.Len: how many numbers a segment takes. Everything that can be read. No condition.
-/
import Derived.Test.YtjgdmkmfnkaoaaaOpt
import Derived.Deep.DeepCutAuto
namespace Go.Proofs.Ytjgdmkmfnkaoaaa
open Go.RowKit

/-- what is known of bytes in a row of the call's own -/
def Bk (w : World) (B : Nat) (A : Option Addr) (c : Nat) (l : List UInt8) : Prop := Rd w B w.heap.size A (cells l) ∧ (A = none → c = 0) ∧ l.length ≤ c ∧ c ≤ maxLen
theorem Bk.setRow {w : World} {B c g : Nat} {A : Option Addr} {l : List UInt8} (h : Bk w B A c l) (hg : g < B) (cs : Array Value) : Bk (w.setRow g cs) B A c l := by
  obtain ⟨h1, h2⟩ := h
  refine ⟨(h1.keep (w' := w.setRow g cs) fun p hp _ => World.cell?_of_block (setRow_other w g _ _ (by omega))).wide (Nat.le_refl _) (by simp), h2⟩
theorem Bk.grow {w w' : World} {B c : Nat} {A : Option Addr} {l : List UInt8} (h : Bk w B A c l) (hb : Below w.heap.size w w') : Bk w' B A c l := by
  obtain ⟨h1, h2⟩ := h
  exact ⟨(h1.below hb (Nat.le_refl _)).wide (Nat.le_refl _) hb.size, h2⟩
theorem Bk.gro {w w' : World} {B c g : Nat} {A : Option Addr} {l : List UInt8} (h : Bk w B A c l) (hg : g < B) (hb : Gro (· = g) w w') : Bk w' B A c l := by
  obtain ⟨h1, h2⟩ := h
  exact ⟨(h1.keep (w' := w') fun p hp hq => World.cell?_of_block (hb.block p.block hq (by omega))).wide (Nat.le_refl _) hb.size, h2⟩
theorem fresh_st {g B : Nat} (hg : g < B) (l : List UInt8) : Stable g (Fresh B l) := fun _ _ _ hb h => by
  obtain ⟨A, c, e, h1⟩ := h
  exact ⟨A, c, e, Bk.gro h1 hg hb⟩

/-- a segment as cells -/
def sgC (x : Sg) (v : Value) : Array Value := #[.int .u16 (x.src : Int), .int .u16 (x.dst : Int), .int .u32 (x.seq : Int), .int .u32 (x.ack : Int), .int .u8 (x.flags.toNat : Int), .int .u16 (x.wnd : Int), .int .u16 (x.mss : Int), v]
def SgC (w : World) (lo hi : Nat) (cs : Array Value) (x : Sg) : Prop := ∃ A c, cs = #[.int .u16 (x.src : Int), .int .u16 (x.dst : Int), .int .u32 (x.seq : Int), .int .u32 (x.ack : Int), .int .u8 (x.flags.toNat : Int), .int .u16 (x.wnd : Int), .int .u16 (x.mss : Int), .slice A x.data.length c] ∧ x.ok ∧ Rd w lo hi A (cells x.data) ∧ x.data.length ≤ c ∧ c ≤ maxLen ∧ (A = none → c = 0)
section
variable {w w' : World} {lo hi : Nat} {cs : Array Value}
theorem SgC.below {x : Sg} {B : Nat} (h : SgC w lo hi cs x) (hb : Below B w w') (hB : hi ≤ B) : SgC w' lo hi cs x := by
  obtain ⟨A, c, h1, h2, h3, h4⟩ := h
  exact ⟨A, c, h1, h2, h3.below hb hB, h4⟩
theorem SgC.wide {x : Sg} {lo' hi' : Nat} (h : SgC w lo hi cs x) (h1 : lo' ≤ lo) (h2 : hi ≤ hi') : SgC w lo' hi' cs x := by
  obtain ⟨A, c, h3, h4, h5, h6⟩ := h
  exact ⟨A, c, h3, h4, h5.wide h1 h2, h6⟩
end
theorem zero_sg (w : World) (lo hi : Nat) : SgC w lo hi #[.int .u16 0, .int .u16 0, .int .u32 0, .int .u32 0, .int .u8 0, .int .u16 0, .int .u16 0, .slice none 0 0] Sg.zero := ⟨none, 0, rfl, by unfold Sg.ok Sg.zero; simp, Rd.nil, Nat.le_refl _, Nat.zero_le _, fun _ => rfl⟩
theorem load_sg {w : World} {g : Nat} {t : TypeId} {cs : Array Value} (hg : w.heap[g]? = some (.cells cs t (0, 0))) (hs : cs.size = 8) : (loadVar 26 ⟨g, 0, none⟩).run Try.prog w = .ok (.agg cs) w :=
  run_loadVar_row w g t 26 cs (0, 0) _ hg Try.underlying26 rfl (by rw [hs]; kernel_rfl)
/-- a struct's cells in block g -/
def SgAt (g : Nat) (C : Array Value) : Pred := fun _ w => w.heap[g]? = some (.cells C 26 (0, 0))
theorem sgAt_mono (g : Nat) (C : Array Value) : Mono (SgAt g C) := fun _ _ _ hb h => (hb.block g (row_lt h)).trans h
theorem and_31 (x : Nat) (h : x < 256) : bits .and .u8 (x : Int) 31 = ((x % 32 : Nat) : Int) := by
  rw [show (31 : Int) = ((31 : Nat) : Int) from rfl, u8_and_nat x 31 h (by omega), show (31 : Nat) = 2 ^ 5 - 1 from rfl, Nat.and_two_pow_sub_one_eq_mod]
theorem and_2 (x : Nat) (h : x < 256) : bits .and .u8 (x : Int) 2 = ((2 * (x / 2 % 2) : Nat) : Int) := by
  rw [show (2 : Int) = ((2 : Nat) : Int) from rfl, u8_and_nat x 2 h (by omega)]
  congr 1
  revert h
  revert x
  decide +kernel
theorem ret_one {P : Program} {fn : Func} {R : Ending → World → Prop} {a : Act} {w : World} {p : Tmp} {ty : TypeId} {g : Nat} {cs : Array Value} {t : TypeId} {fr : Nat × Nat} {d : TypeDesc} (h : fn.results = #[.cell p ty]) (hp : a.tmps.getD p undef = .pointer (some ⟨g, 0, none⟩))
    (hg : w.heap[g]? = some (.cells cs t fr)) (hu : P.underlying ty = some d) (hd : d.isRow = true) (hi : (P.info? ty).map (·.size) = some cs.size) (hdf : a.defers = []) (hR : R (.returned (.agg cs)) w) : bodyPost P fn R .ret a w := by
  refine bodyPost_ret (v := .agg cs) ?_ hdf hR
  exact results_cell_row h a.tmps w g t cs fr d hp hg hu (by cases d <;> first | rfl | cases hd) hi

set_option maxRecDepth 100000 in
set_option maxHeartbeats 4000000 in
theorem fields_any (A : Option Addr) (l : List UInt8) (c lo hi : Nat) (w : World) (h : Rd w lo hi A (cells l)) (hhi : hi ≤ w.heap.size) (hl : 20 ≤ l.length) (hm : l.length ≤ maxLen) :
    Calls Try.prog 39 #[.slice A l.length c] w fun e w' => e = .returned (.agg #[.int .u16 (numAt l 0 : Nat), .int .u16 (numAt l 2 : Nat), .int .u32 (num4 l 4 : Nat), .int .u32 (num4 l 8 : Nat), .int .u8 ((l.getD 13 0).toNat % 32 : Nat), .int .u16 (numAt l 14 : Nat), .int .u16 0, .slice none 0 0]) ∧ Below w.heap.size w w' := by
  obtain ⟨x, hx⟩ : ∃ x, l[13]? = some x := ⟨_, List.getElem?_eq_getElem (by omega)⟩
  obtain ⟨ad, rfl, hz⟩ := h.byte (k := 0) (by omega)
  obtain ⟨n, hn⟩ : ∃ n, l.length = n := ⟨_, rfl⟩
  have g13 := getD_of hx
  have hxl := x.toNat_lt
  obtain ⟨y, hy⟩ : ∃ y, x.toNat = y := ⟨_, rfl⟩
  have hand := and_31 y (by omega)
  rw [g13, hy]
  obtain ⟨w1, hw1⟩ : ∃ w1, w.alloc (.cells #[.int .u16 0, .int .u16 0, .int .u32 0, .int .u32 0, .int .u8 0, .int .u16 0, .int .u16 0, .slice none 0 0] 26) = w1 := ⟨_, rfl⟩
  have HB1 : Hid (Below w.heap.size w w1) := by show Below _ _ _; rw [← hw1]; exact (Below.refl _ _).alloc (Nat.le_refl _) _
  have HGG : Hid (w1.heap[w.heap.size]? = some (.cells #[.int .u16 0, .int .u16 0, .int .u32 0, .int .u32 0, .int .u8 0, .int .u16 0, .int .u16 0, .slice none 0 0] 26 (0, 0))) := by show _ = _; rw [← hw1]; exact heap_alloc_new w _
  have HRB : Hid (∀ w', Gro (· = w.heap.size) w1 w' → Rd w' lo hi (some ad) (cells l)) := fun w' hg => (h.below (B := w.heap.size) (HB1.out.trans (hg.below (fun k hk => Nat.le_of_eq hk.symm) HB1.out.size)) hhi)
  have HHI : Hid (∀ w', Gro (· = w.heap.size) w1 w' → hi ≤ w'.heap.size) := fun w' hg => Nat.le_trans hhi (Nat.le_trans HB1.out.size hg.size)
  have HK13 : Hid (∀ w', Gro (· = w.heap.size) w1 w' → w'.cell? ⟨ad.block, ad.off + 13, none⟩ = some (.int .u8 (y : Int))) := fun w' hg => by rw [← hy]; exact byte_at (HRB.out w' hg) 13 (by omega) hx
  have HWD : Hid (∀ (k : Nat) (w' : World), k + 1 < n → Rd w' lo hi (some ad) (cells l) → Calls Try.prog 71 #[.slice (some ad) n c, .int .i64 (k : Int)] w' fun e w'' => e = .returned (.int .u16 (numAt l k : Nat)) ∧ Below w'.heap.size w' w'') := fun k w' hk hr => by
    have := sword_any (some ad) l k c lo hi w' hr (by omega) hm
    rwa [hn] at this
  have HLG0 : Hid (∀ (k : Nat) (w' : World), k + 3 < n → Rd w' lo hi (some ad) (cells l) → hi ≤ w'.heap.size → Calls Try.prog 72 #[.slice (some ad) n c, .int .i64 (k : Int)] w' fun e w'' => e = .returned (.int .u32 (num4 l k : Nat)) ∧ Below w'.heap.size w' w'') := fun k w' hk hr hh => by
    have := slong_any (some ad) l k c lo hi w' hr hh (by omega) hm
    rwa [hn] at this
  obtain ⟨p0, hv0⟩ : ∃ p, numAt l 0 = p := ⟨_, rfl⟩
  have HV0 := Lib.hid hv0
  rw [hv0]
  obtain ⟨p2, hv2⟩ : ∃ p, numAt l 2 = p := ⟨_, rfl⟩
  have HV2 := Lib.hid hv2
  rw [hv2]
  obtain ⟨p4, hv4⟩ : ∃ p, num4 l 4 = p := ⟨_, rfl⟩
  have HV4 := Lib.hid hv4
  rw [hv4]
  obtain ⟨p8, hv8⟩ : ∃ p, num4 l 8 = p := ⟨_, rfl⟩
  have HV8 := Lib.hid hv8
  rw [hv8]
  obtain ⟨p14, hv14⟩ : ∃ p, numAt l 14 = p := ⟨_, rfl⟩
  have HV14 := Lib.hid hv14
  rw [hv14]
  obtain ⟨p13, hv13⟩ : ∃ p, y % 32 = p := ⟨_, rfl⟩
  rw [hv13] at hand ⊢
  rw [hn] at hl hm ⊢
  unfold maxLen at hm
  have i13 : (13 : Int) < (n : Int) := by omega
  clear h hhi hz hx g13 hy hn hv0 hv2 hv4 hv8 hv14 hv13
  go_enter Try.func39, Try.ntmps39
  go_upto_region 1 with (fail)
  try rw [hw1]
  clear hw1
  apply wp_region_rely (· = w.heap.size) (RL [Is _, Is (.int .u16 (p0 : Int)), Is _, Is (.int .u16 (p2 : Int)), Is _, Is (.int .u32 (p4 : Int)), Is _, Is (.int .u32 (p8 : Int)), Is _, Is _, Is _, Is _, Is _, Is (.int .u16 (p14 : Int)), Is _, SgAt w.heap.size #[.int .u16 (p0 : Int), .int .u16 (p2 : Int), .int .u32 (p4 : Int), .int .u32 (p8 : Int), .int .u8 (p13 : Int), .int .u16 (p14 : Int), .int .u16 0, .slice none 0 0]]) [false, false, false, true, true, true, true, true, true, true, true, true, true, true, true, true, true, true]
  · kernel_rfl
  · kernel_rfl
  · kernel_rfl
  · refine ⟨?_, ?_, ?_, ?_, ?_, ?_, ?_, ?_, ?_, ?_, ?_, ?_, ?_, ?_, ?_, ?_, trivial⟩
    · intro ev w' hC hc hf hb hr K hK
      have e0 : ev (.tmp 0) = _ := hb 0 (by kernel_rfl)
      have HK := Lib.hid hK
      have HC := Lib.hid hC
      clear hb hr hK hC hf
      unfold Run
      simp [execOp, Upon, go_sem, *]
      exact HK.out _ _ (.inl (Below.refl _ _)) rfl
    · intro ev w' hC hc hf hb hr K hK
      have e3 := hr 0 _ rfl (by kernel_rfl)
      change ev (.tmp 3) = _ at e3
      have HK := Lib.hid hK
      have HC := Lib.hid hC
      clear hb hr hK hC
      unfold Run
      simp [execOp, Upon, go_sem, *]
      refine (HWD.out 0 w' (by omega) (HRB.out w' HC.out)).mono ?_
      rw [HV0.out]
      rintro e w2 ⟨rfl, hb⟩
      exact ⟨_, rfl, HK.out _ _ (.inl hb) rfl⟩
    · intro ev w' hC hc hf hb hr K hK
      have e0 : ev (.tmp 0) = _ := hb 0 (by kernel_rfl)
      have HK := Lib.hid hK
      have HC := Lib.hid hC
      clear hb hr hK hC hf
      unfold Run
      simp [execOp, Upon, go_sem, *]
      exact HK.out _ _ (.inl (Below.refl _ _)) rfl
    · intro ev w' hC hc hf hb hr K hK
      have e5 := hr 2 _ rfl (by kernel_rfl)
      change ev (.tmp 5) = _ at e5
      have HK := Lib.hid hK
      have HC := Lib.hid hC
      clear hb hr hK hC
      unfold Run
      simp [execOp, Upon, go_sem, *]
      refine (HWD.out 2 w' (by omega) (HRB.out w' HC.out)).mono ?_
      rw [HV2.out]
      rintro e w2 ⟨rfl, hb⟩
      exact ⟨_, rfl, HK.out _ _ (.inl hb) rfl⟩
    · intro ev w' hC hc hf hb hr K hK
      have e0 : ev (.tmp 0) = _ := hb 0 (by kernel_rfl)
      have HK := Lib.hid hK
      have HC := Lib.hid hC
      clear hb hr hK hC hf
      unfold Run
      simp [execOp, Upon, go_sem, *]
      exact HK.out _ _ (.inl (Below.refl _ _)) rfl
    · intro ev w' hC hc hf hb hr K hK
      have e7 := hr 4 _ rfl (by kernel_rfl)
      change ev (.tmp 7) = _ at e7
      have HK := Lib.hid hK
      have HC := Lib.hid hC
      clear hb hr hK hC
      unfold Run
      simp [execOp, Upon, go_sem, *]
      refine (HLG0.out 4 w' (by omega) (HRB.out w' HC.out) (HHI.out w' HC.out)).mono ?_
      rw [HV4.out]
      rintro e w2 ⟨rfl, hb⟩
      exact ⟨_, rfl, HK.out _ _ (.inl hb) rfl⟩
    · intro ev w' hC hc hf hb hr K hK
      have e0 : ev (.tmp 0) = _ := hb 0 (by kernel_rfl)
      have HK := Lib.hid hK
      have HC := Lib.hid hC
      clear hb hr hK hC hf
      unfold Run
      simp [execOp, Upon, go_sem, *]
      exact HK.out _ _ (.inl (Below.refl _ _)) rfl
    · intro ev w' hC hc hf hb hr K hK
      have e9 := hr 6 _ rfl (by kernel_rfl)
      change ev (.tmp 9) = _ at e9
      have HK := Lib.hid hK
      have HC := Lib.hid hC
      clear hb hr hK hC
      unfold Run
      simp [execOp, Upon, go_sem, *]
      refine (HLG0.out 8 w' (by omega) (HRB.out w' HC.out) (HHI.out w' HC.out)).mono ?_
      rw [HV8.out]
      rintro e w2 ⟨rfl, hb⟩
      exact ⟨_, rfl, HK.out _ _ (.inl hb) rfl⟩
    · intro ev w' hC hc hf hb hr K hK
      have e0 : ev (.tmp 0) = _ := hb 0 (by kernel_rfl)
      have HK := Lib.hid hK
      have HC := Lib.hid hC
      clear hb hr hK hC hf
      unfold Run
      simp [execOp, Upon, go_sem, *]
      exact HK.out _ _ (.inl (Below.refl _ _)) rfl
    · intro ev w' hC hc hf hb hr K hK
      have e11 := hr 8 _ rfl (by kernel_rfl)
      change ev (.tmp 11) = _ at e11
      have HK := Lib.hid hK
      have HC := Lib.hid hC
      clear hb hr hK hC hf
      unfold Run
      simp [execOp, Upon, go_sem, *]
      exact HK.out _ _ (.inl (Below.refl _ _)) rfl
    · intro ev w' hC hc hf hb hr K hK
      have e12 := hr 9 _ rfl (by kernel_rfl)
      change ev (.tmp 12) = _ at e12
      have HK := Lib.hid hK
      have HC := Lib.hid hC
      clear hb hr hK hC hf
      have k13 := HK13.out w' HC.out
      unfold Run
      simp [execOp, Upon, go_sem, *]
      exact HK.out _ _ (.inl (Below.refl _ _)) rfl
    · intro ev w' hC hc hf hb hr K hK
      have e13 := hr 10 _ rfl (by kernel_rfl)
      change ev (.tmp 13) = _ at e13
      have HK := Lib.hid hK
      have HC := Lib.hid hC
      clear hb hr hK hC hf
      unfold Run
      simp [execOp, Upon, go_sem, *]
      exact HK.out _ _ (.inl (Below.refl _ _)) rfl
    · intro ev w' hC hc hf hb hr K hK
      have e0 : ev (.tmp 0) = _ := hb 0 (by kernel_rfl)
      have HK := Lib.hid hK
      have HC := Lib.hid hC
      clear hb hr hK hC hf
      unfold Run
      simp [execOp, Upon, go_sem, *]
      exact HK.out _ _ (.inl (Below.refl _ _)) rfl
    · intro ev w' hC hc hf hb hr K hK
      have e15 := hr 12 _ rfl (by kernel_rfl)
      change ev (.tmp 15) = _ at e15
      have HK := Lib.hid hK
      have HC := Lib.hid hC
      clear hb hr hK hC
      unfold Run
      simp [execOp, Upon, go_sem, *]
      refine (HWD.out 14 w' (by omega) (HRB.out w' HC.out)).mono ?_
      rw [HV14.out]
      rintro e w2 ⟨rfl, hb⟩
      exact ⟨_, rfl, HK.out _ _ (.inl hb) rfl⟩
    · intro ev w' hC hc hf hb hr K hK
      have e4 := hr 1 _ rfl (by kernel_rfl)
      have e6 := hr 3 _ rfl (by kernel_rfl)
      have e8 := hr 5 _ rfl (by kernel_rfl)
      have e10 := hr 7 _ rfl (by kernel_rfl)
      have e14 := hr 11 _ rfl (by kernel_rfl)
      have e16 := hr 13 _ rfl (by kernel_rfl)
      change ev (.tmp 4) = _ at e4
      change ev (.tmp 6) = _ at e6
      change ev (.tmp 8) = _ at e8
      change ev (.tmp 10) = _ at e10
      change ev (.tmp 14) = _ at e14
      change ev (.tmp 16) = _ at e16
      have HK := Lib.hid hK
      have HC := Lib.hid hC
      clear hb hr hK hC hf
      unfold Run
      simp [execOp, Upon, go_sem, *]
      exact HK.out _ _ (.inl (Below.refl _ _)) rfl
    · intro ev w' hC hc hf hb hr K hK
      have e2 : ev (.tmp 2) = _ := hb 2 (by kernel_rfl)
      have e17 := hr 14 _ rfl (by kernel_rfl)
      change ev (.tmp 17) = _ at e17
      have HK := Lib.hid hK
      have HC := Lib.hid hC
      clear hb hr hK hC hf
      obtain ⟨old, hold, hsz⟩ := HC.out.shape w.heap.size _ _ _ HGG.out
      have hst := run_storeVar_row (P := Try.prog) w' w.heap.size 26 26 old #[.int .u16 (p0 : Int), .int .u16 (p2 : Int), .int .u32 (p4 : Int), .int .u32 (p8 : Int), .int .u8 (p13 : Int), .int .u16 (p14 : Int), .int .u16 0, .slice none 0 0] hold (by kernel_rfl) (by rw [hsz]; rfl) (by kernel_rfl)
      unfold Run
      rw [run_storeE 26 _ _ rfl e2 e17 hst]
      refine HK.out _ _ (.inr ⟨Gro.setRow hold _ (by rw [hsz]; rfl), fun j hj u hr => rl_st (g := w.heap.size) (i := 15) 0 (by exact ⟨.inr (is_st _ _), .inr (is_st _ _), .inr (is_st _ _), .inr (is_st _ _), .inr (is_st _ _), .inr (is_st _ _), .inr (is_st _ _), .inr (is_st _ _), .inr (is_st _ _), .inr (is_st _ _), .inr (is_st _ _), .inr (is_st _ _), .inr (is_st _ _), .inr (is_st _ _), .inr (is_st _ _), .inl rfl, trivial⟩) j u _ _ (by omega) (Gro.setRow hold _ (by rw [hsz]; rfl)) hr⟩) (setRow_heap _ _ _ _ _ _ hold)
  · exact rl_mono ⟨is_mono _, is_mono _, is_mono _, is_mono _, is_mono _, is_mono _, is_mono _, is_mono _, is_mono _, is_mono _, is_mono _, is_mono _, is_mono _, is_mono _, is_mono _, sgAt_mono _ _, trivial⟩
  intro us wr hG hH
  obtain ⟨-, -, -, -, -, -, -, -, -, -, -, -, -, -, -, h15, -⟩ := hH
  simp only [fillM]
  change (SgAt w.heap.size #[.int .u16 (p0 : Int), .int .u16 (p2 : Int), .int .u32 (p4 : Int), .int .u32 (p8 : Int), .int .u8 (p13 : Int), .int .u16 (p14 : Int), .int .u16 0, .slice none 0 0] : Pred) undef wr at h15
  generalize us 3 = v3
  generalize us 4 = v4
  generalize us 5 = v5
  generalize us 6 = v6
  generalize us 7 = v7
  generalize us 8 = v8
  generalize us 9 = v9
  generalize us 10 = v10
  generalize us 11 = v11
  generalize us 12 = v12
  generalize us 13 = v13
  generalize us 14 = v14
  generalize us 15 = v15
  generalize us 16 = v16
  generalize us 17 = v17
  have HGP := Lib.hid h15
  have HBF : Hid (Below w.heap.size w wr) := HB1.out.trans (hG.below (fun k hk => Nat.le_of_eq hk.symm) HB1.out.size)
  clear h15 hG
  go_wp2_with fail
  refine ret_one (g := w.heap.size) rfl rfl HGP.out Try.underlying26 rfl (by kernel_rfl) rfl ?_
  exact ⟨rfl, HBF.out⟩
end Go.Proofs.Ytjgdmkmfnkaoaaa
