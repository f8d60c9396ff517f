/-
  addr.ReadIP, Read, ReadMAC: which texts are addresses, and whose. Every text of at most a milliard bytes, in every world in which the table lies.
-/
import Derived.Test.YtbahkilfcfbolaaDoorPlain
import Derived.Test.YtbahkilfcfbolaaDoorNumber
import Derived.Test.YtbahkilfcfbolaaDoorWrite
import Derived.Test.YtbahkilfcfbolaaDoorCells
namespace Go.Proofs.YtbahkilfcfbolaaDoor
open Go.RowKit

theorem box_at {w : World} {b : Nat} {a : List UInt8} {t : TypeId} (h : w.heap[b]? = some (.cells (cells a).toArray t (0, 0))) (k : Nat) (hk : k < a.length) : w.cell? ⟨b, k, none⟩ = some (.int .u8 (a[k].toNat : Int)) := by
  rw [cell_of_row _ _ k _ _ _ h]
  simp [cells, hk]
theorem part_len (c : UInt8) : ∀ (n : Nat) (l : List UInt8) (k : Nat) (hk : k < (parts c n l).length), (parts c n l)[k].length ≤ l.length := by
  intro n l k hk
  have h : ∀ (m : Nat) (s : List UInt8), ∀ y ∈ Lib.splitK [c] 0 m s, y.length ≤ s.length := by
    intro m
    induction m with
    | zero => intro s y hy; simp [Lib.splitK] at hy; subst hy; exact Nat.le_refl _
    | succ m ih =>
      intro s y hy
      rcases mark_cases c s with h | ⟨a, b, rfl, h⟩
      · rw [splitK_miss c _ s h] at hy
        simp at hy
        subst hy
        exact Nat.le_refl _
      · rw [splitK_hit c m a b h] at hy
        rcases List.mem_cons.1 hy with rfl | hy
        · simp
        · have := ih b y hy
          simp
          omega
  exact h _ _ _ (List.getElem_mem hk)
theorem pieces_hit (l : List UInt8) (c : UInt8) (n : Nat) (w : World) (hl : l.length ≤ 1000000000) (hn : n ≤ 1000) (hp : (parts c n l).length = n) (hR : Ready w) :
    Calls Tryd.prog 28 #[txt l, txt [c], .int .i64 n] w fun e w' => ∃ cap, e = .returned (.tuple #[.slice (some ⟨w.heap.size, 0, none⟩) n cap, .bool true]) ∧
      Rd w' w.heap.size w'.heap.size (some ⟨w.heap.size, 0, none⟩) (txts (parts c n l)) ∧ Below w.heap.size w w' := by
  go_enter Tryd.func28, Tryd.ntmps28
  go_wp2_with fail
  refine (splitN_any l c n w hl hn hR).mono ?_
  rintro e w1 ⟨cap, rfl, _, hrd, hb⟩
  rw [hp]
  go_wp2
  go_ret2
  exact ⟨cap, rfl, hrd, hb⟩
theorem pieces_miss (l : List UInt8) (c : UInt8) (n : Nat) (w : World) (hl : l.length ≤ 1000000000) (hn : n ≤ 1000) (hp : (parts c n l).length ≠ n) (hR : Ready w) :
    Calls Tryd.prog 28 #[txt l, txt [c], .int .i64 n] w fun e w' => ∃ v, e = .returned (.tuple #[v, .bool false]) ∧ Below w.heap.size w w' := by
  go_enter Tryd.func28, Tryd.ntmps28
  go_wp2_with fail
  refine (splitN_any l c n w hl hn hR).mono ?_
  rintro e w1 ⟨cap, rfl, hle, hrd, hb⟩
  have hq : (((parts c n l).length : Int) == (n : Int)) = false := by
    rw [beq_eq_false_iff_ne]
    omega
  go_wp2
  go_ret2
  exact ⟨_, rfl, hb⟩

theorem four_cells {w : World} {b : Nat} {x0 x1 x2 x3 : UInt8} {t : TypeId} (h : w.heap[b]? = some (.cells (cells [x0, x1, x2, x3]).toArray t (0, 0))) :
    w.cell? ⟨b, 0, none⟩ = some (.int .u8 (x0.toNat : Int)) ∧ w.cell? ⟨b, 1, none⟩ = some (.int .u8 (x1.toNat : Int)) ∧ w.cell? ⟨b, 2, none⟩ = some (.int .u8 (x2.toNat : Int)) ∧ w.cell? ⟨b, 3, none⟩ = some (.int .u8 (x3.toNat : Int)) :=
  ⟨box_at h 0 (by simp), box_at h 1 (by simp), box_at h 2 (by simp), box_at h 3 (by simp)⟩
theorem readip_short (l : List UInt8) (w : World) (hl : l.length ≤ 1000000000) (hp : (parts 46 4 l).length ≠ 4) (hR : Ready w) :
    Calls Tryd.prog 12 #[txt l] w fun e w' => e = .returned (.tuple #[.agg (cells (ipOf l).1).toArray, .int .i64 (ipOf l).2]) ∧ Below w.heap.size w w' := by
  have HP : Hid (ipOf l = ([0, 0, 0, 0], 7)) := ipOf_miss l fun a ha e => hp (by rw [← e, ip_parts a ha, List.length_map, ha])
  go_enter Tryd.func12, Tryd.ntmps12
  go_wp2_with fail
  have HB1 := Lib.hid (((Below.refl w.heap.size w).alloc (Nat.le_refl _) (Obj.cells #[Value.int IntKind.u8 0, Value.int IntKind.u8 0, Value.int IntKind.u8 0, Value.int IntKind.u8 0] 23)).alloc (by simp) (Obj.cells #[Value.int IntKind.u8 0, Value.int IntKind.u8 0, Value.int IntKind.u8 0, Value.int IntKind.u8 0] 23))
  refine (pieces_miss l 46 4 _ hl (by omega) hp (hR.below HB1.out (Nat.le_refl _))).mono ?_
  rintro e w1 ⟨v, rfl, hb⟩
  have hz : w1.heap[w.heap.size]? = some (.cells (cells [0, 0, 0, 0]).toArray 23 (0, 0)) := (hb.block _ (by simp; omega)).trans (at1 w _ _)
  obtain ⟨hc0, hc1, hc2, hc3⟩ := four_cells hz
  have hf := fun j => frozen_of_row w1 _ j _ _ hz
  have HB := Lib.hid (HB1.out.trans (hb.mono HB1.out.size))
  have HZ := Lib.hid hz
  clear hb hz
  go_wp2
  (try simp only [Exit.inBlock, Exit.then])
  refine ret_row (g := w.heap.size) (cs := #[.int .u8 0, .int .u8 0, .int .u8 0, .int .u8 0]) rfl rfl (load_ip (set4 HZ.out _ _ _ _) rfl) rfl ?_
  rw [HP.out]
  exact ⟨rfl, below_set4 HB.out (Nat.le_refl _) _ _ _ _⟩
/-- the bytes that are there behind k rounds -/
def brow (a : List UInt8) (n : Nat) : List UInt8 := a ++ List.replicate (n - a.length) 0
theorem brow_get (a : List UInt8) (n : Nat) (h : a.length < n) : a.length < (brow a n).length := by
  unfold brow
  rw [List.length_append, List.length_replicate]
  omega
theorem brow_set (a : List UInt8) (n : Nat) (h : a.length < n) (c : UInt8) : (brow a n).set a.length c = brow (a ++ [c]) n := by
  unfold brow
  rw [List.set_append_right _ _ (Nat.le_refl _), List.append_assoc]
  congr 1
  rw [List.length_append, List.length_singleton, show n - a.length = (n - (a.length + 1)) + 1 from by omega, List.replicate_succ, Nat.sub_self]
  rfl
theorem brow_all (a : List UInt8) : brow a a.length = a := by simp [brow]
theorem cells_set (l : List UInt8) (k : Nat) (c : UInt8) : (cells l).set k (.int .u8 (c.toNat : Int)) = cells (l.set k c) := by
  unfold cells
  rw [List.map_set]
/-- one byte more -/
theorem brow_store {w : World} {b n : Nat} {a : List UInt8} {t : TypeId} (h : w.heap[b]? = some (.cells (cells (brow a n)).toArray t (0, 0))) (ha : a.length < n) (c : UInt8) :
    (w.setCell ⟨b, a.length, none⟩ (.int .u8 (c.toNat : Int))).heap[b]? = some (.cells (cells (brow (a ++ [c]) n)).toArray t (0, 0)) := by
  rw [heap_setCell_same _ _ _ _ _ _ h, ← brow_set a n ha c, ← cells_set]
  simp
/-- behind k parts: each of them is a number of a byte -/
def RdSt (f : UInt8 → List UInt8) (ps : List (List UInt8)) (n : Nat) (T : TypeId) (w : World) (k : Nat) (wr : World) : Prop :=
  ∃ bs : List UInt8, bs.length = k ∧ k ≤ n ∧ ps.take k = bs.map f ∧ wr.heap[w.heap.size]? = some (.cells (cells (List.replicate n 0)).toArray T (0, 0)) ∧ wr.heap[w.heap.size + 1]? = some (.cells (cells (brow bs n)).toArray T (0, 0)) ∧
    Rd wr (w.heap.size + 2) wr.heap.size (some ⟨w.heap.size + 2, 0, none⟩) (txts ps) ∧ Below w.heap.size w wr
theorem rdst_step {f : UInt8 → List UInt8} {ps : List (List UInt8)} {n : Nat} {T : TypeId} {w wr w2 : World} {k : Nat} (h : RdSt f ps n T w k wr) (hk : k < n) (hkp : k < ps.length) (c : UInt8) (hc : ps[k] = f c) (hb : Below wr.heap.size wr w2) :
    RdSt f ps n T w (k + 1) (w2.setCell ⟨w.heap.size + 1, k, none⟩ (.int .u8 (c.toNat : Int))) := by
  obtain ⟨bs, rfl, h2, h3, h4, h5, h6, h7⟩ := h
  refine ⟨bs ++ [c], by simp, hk, ?_, ?_, ?_, ?_, ?_⟩
  · rw [List.take_succ_eq_append_getElem hkp, h3, hc, List.map_append]
    rfl
  · rw [heap_setCell_other _ _ _ _ (by show w.heap.size ≠ w.heap.size + 1; omega)]
    exact (hb.block _ (row_lt h4)).trans h4
  · exact brow_store ((hb.block _ (row_lt h5)).trans h5) hk c
  · have h8 := (h6.below hb (Nat.le_refl _)).setCell (p := ⟨w.heap.size + 1, bs.length, none⟩) (.inl (by show w.heap.size + 1 < w.heap.size + 2; omega)) (.int .u8 (c.toNat : Int))
    exact h8.wide (Nat.le_refl _) (by simpa using hb.size)
  · exact (h7.trans (hb.mono h7.size)).setCell (p := ⟨w.heap.size + 1, bs.length, none⟩) (by show w.heap.size ≤ w.heap.size + 1; omega) _
theorem rdst_part {f : UInt8 → List UInt8} {ps : List (List UInt8)} {n : Nat} {T : TypeId} {w wr : World} {k : Nat} (h : RdSt f ps n T w k wr) (hkp : k < ps.length) : wr.cell? ⟨w.heap.size + 2, k, none⟩ = some (txt ps[k]) := by
  obtain ⟨_, _, _, _, _, _, h6, _⟩ := h
  obtain ⟨ad, e, _, _, hc⟩ := h6 k (txt ps[k]) (by unfold txts; rw [List.getElem?_map, List.getElem?_eq_getElem hkp]; rfl)
  cases e
  have e2 : ((⟨w.heap.size + 2, 0, none⟩ : Addr).add k) = ⟨w.heap.size + 2, k, none⟩ := by
    unfold Addr.add
    by_cases h0 : k = 0 <;> simp [h0]
  rw [← e2]
  exact hc
theorem rdst_cell {f : UInt8 → List UInt8} {ps : List (List UInt8)} {n : Nat} {T : TypeId} {w wr : World} {k : Nat} (h : RdSt f ps n T w k wr) (hk : k < n) : wr.cell? ⟨w.heap.size + 1, k, none⟩ = some (.int .u8 (0 : Int)) ∧ w.heap.size + 1 < wr.heap.size := by
  obtain ⟨bs, rfl, _, _, _, h5, _, _⟩ := h
  refine ⟨?_, row_lt h5⟩
  rw [box_at h5 _ (brow_get bs n hk)]
  have : (brow bs n)[bs.length]'(brow_get bs n hk) = 0 := by
    have h : (brow bs n)[bs.length]? = some 0 := by
      unfold brow
      rw [List.getElem?_append_right (Nat.le_refl _), Nat.sub_self, List.getElem?_replicate, if_pos (by omega)]
    rw [List.getElem?_eq_getElem (brow_get bs n hk)] at h
    exact Option.some.inj h
  rw [this]
  rfl

set_option maxRecDepth 100000 in
set_option maxHeartbeats 1000000 in
theorem readip_full (l : List UInt8) (w : World) (hl : l.length ≤ 1000000000) (hp : (parts 46 4 l).length = 4) (hR : Ready w) :
    Calls Tryd.prog 12 #[txt l] w fun e w' => e = .returned (.tuple #[.agg (cells (ipOf l).1).toArray, .int .i64 (ipOf l).2]) ∧ Below w.heap.size w w' := by
  have HJ := Lib.hid (parts_join 46 4 l)
  have HIP : Hid (∀ a : List UInt8, a.length = 4 → ipT a = l → parts 46 4 l = a.map fun c => dec c.toNat) := fun a ha e => by rw [← e]; exact ip_parts a ha
  have HPL : Hid (∀ k, k < 4 → ∀ (hk : k < (parts 46 4 l).length), (parts 46 4 l)[k].length ≤ 1000000000) := fun k _ hk => Nat.le_trans (part_len _ _ _ _ hk) hl
  go_enter Tryd.func12, Tryd.ntmps12
  go_wp2_with fail
  have HB1 := Lib.hid (((Below.refl w.heap.size w).alloc (Nat.le_refl _) (Obj.cells #[Value.int IntKind.u8 0, Value.int IntKind.u8 0, Value.int IntKind.u8 0, Value.int IntKind.u8 0] 23)).alloc (by simp) (Obj.cells #[Value.int IntKind.u8 0, Value.int IntKind.u8 0, Value.int IntKind.u8 0, Value.int IntKind.u8 0] 23))
  refine (pieces_hit l 46 4 _ hl (by omega) hp (hR.below HB1.out (Nat.le_refl _))).mono ?_
  rintro e w1 ⟨cap, rfl, hrd, hb⟩
  rw [World.size_alloc, World.size_alloc] at *
  have HST : Hid (RdSt (fun c => dec c.toNat) (parts 46 4 l) 4 23 w 0 w1) := by
    refine ⟨[], rfl, by omega, rfl, ?_, ?_, ?_, ?_⟩
    · exact (hb.block _ (by omega)).trans (at1 w _ _)
    · exact (hb.block _ (by omega)).trans (at2 w _ _)
    · exact hrd
    · exact HB1.out.trans (hb.mono (by omega))
  generalize parts 46 4 l = ps at *
  clear hb hrd
  go_wp2
  go_loopw [21] (fun i wr => ∃ k : Nat, i = .int .i64 k ∧ RdSt (fun c => dec c.toNat) ps 4 23 w k wr) (fun i _ => 4 - (intOf i).toNat)
  case atStart => exact ⟨0, rfl, HST.out⟩
  case round =>
    obtain ⟨k, rfl, hst⟩ := hrel
    have hk : k ≤ 4 := by
      obtain ⟨_, _, h, _⟩ := hst
      exact h
    by_cases hks : k < 4
    · have hkp : k < ps.length := by omega
      have hpc := rdst_part hst hkp
      obtain ⟨hac, hlt⟩ := rdst_cell hst hks
      have hpl := HPL.out k hks hkp
      obtain ⟨q, hq⟩ : ∃ q, ps[k] = q := ⟨_, rfl⟩
      rw [hq] at hpc hpl
      have HQ := Lib.hid hq
      have HST2 := Lib.hid hst
      have HB : Hid (Below w.heap.size w wr) := by
        obtain ⟨_, _, _, _, _, _, _, h⟩ := hst
        exact h
      clear hst hq
      rcases numS_cases q 255 with ⟨n, hn, hqn, hnum⟩ | ⟨hnum, hno⟩
      · obtain ⟨c, rfl⟩ : ∃ c : UInt8, n = c.toNat := ⟨UInt8.ofNat n, (ofNat_toNat (by omega)).symm⟩
        have hc255 : (c.toNat : Int) ≤ 255 := by omega
        have HNUM := Lib.hid hnum
        have HQN := Lib.hid hqn
        clear hnum hqn hn
        go_wp2_with fail
        refine (number_any q 255 _ hpl (by omega)).mono ?_
        rintro e w2 ⟨rfl, hb2⟩
        rw [HNUM.out]
        have hac2 := (hb2.cell (p := ⟨w.heap.size + 1, k, none⟩) hlt).trans hac
        have hfr : w2.frozen? ⟨w.heap.size + 1, k, none⟩ = false := by
          obtain ⟨_, _, _, _, _, h5, _, _⟩ := HST2.out
          exact frozen_of_row w2 _ k _ _ ((hb2.block _ (row_lt h5)).trans h5)
        have HN := Lib.hid (rdst_step HST2.out hks hkp c (by rw [HQ.out]; exact HQN.out) hb2)
        clear hb2
        go_wp2
        go_roundw
        case rel => exact ⟨k + 1, by go_num, HN.out⟩
        case measure => simp [intOf]; omega
      · have HNUM := Lib.hid hnum
        have HP : Hid (ipOf l = ([0, 0, 0, 0], 7)) := ipOf_miss l fun a ha e => by
          have h := HIP.out a ha e
          have hka : k < a.length := by omega
          have h2 : ps[k] = dec a[k].toNat := by simp only [h, List.getElem_map]
          exact hno a[k].toNat (by have := a[k].toNat_lt; omega) (by rw [← h2, HQ.out])
        clear hnum hno
        go_wp2_with fail
        refine (number_any q 255 _ hpl (by omega)).mono ?_
        rintro e w2 ⟨rfl, hb2⟩
        rw [HNUM.out]
        have hz : w2.heap[w.heap.size]? = some (.cells (cells [0, 0, 0, 0]).toArray 23 (0, 0)) := by
          obtain ⟨_, _, _, _, h4, _, _, _⟩ := HST2.out
          exact (hb2.block _ (row_lt h4)).trans h4
        obtain ⟨hc0, hc1, hc2, hc3⟩ := four_cells hz
        have hf := fun j => frozen_of_row w2 _ j _ _ hz
        have HB2 := Lib.hid (HB.out.trans (hb2.mono HB.out.size))
        have HZ := Lib.hid hz
        clear hb2 hz hac
        go_wp2
        (try simp only [Exit.inBlock, Exit.then])
        refine ret_row (g := w.heap.size) (cs := #[.int .u8 0, .int .u8 0, .int .u8 0, .int .u8 0]) rfl rfl (load_ip (set4 HZ.out _ _ _ _) rfl) rfl ?_
        rw [HP.out]
        exact ⟨rfl, below_set4 HB2.out (Nat.le_refl _) _ _ _ _⟩
    · obtain rfl : k = 4 := by omega
      obtain ⟨bs, hbl, _, htk, h4, h5, _, hbw⟩ := hst
      rw [List.take_of_length_le (by omega)] at htk
      have HP : Hid (ipOf l = (bs, 0)) := by
        have := HJ.out
        rw [htk] at this
        show _ = _
        rw [← this]
        exact ipOf_hit bs hbl
      have h5 : wr.heap[w.heap.size + 1]? = some (.cells (cells bs).toArray 23 (0, 0)) := by
        have e : brow bs 4 = bs := by rw [← hbl]; exact brow_all bs
        rw [e] at h5
        exact h5
      match bs, hbl with
      | [x0, x1, x2, x3], _ =>
        obtain ⟨ha0, ha1, ha2, ha3⟩ := four_cells h5
        obtain ⟨hc0, hc1, hc2, hc3⟩ := four_cells h4
        have hf := fun j => frozen_of_row wr _ j _ _ h4
        have HZ := Lib.hid h4
        have HB := Lib.hid hbw
        clear h4 h5 hbw htk
        go_wp2
        (try simp only [Exit.inBlock, Exit.then])
        refine ret_row (g := w.heap.size) (cs := (cells [x0, x1, x2, x3]).toArray) rfl rfl (load_ip (set4 HZ.out _ _ _ _) rfl) rfl ?_
        rw [HP.out]
        exact ⟨rfl, below_set4 HB.out (Nat.le_refl _) _ _ _ _⟩
end Go.Proofs.YtbahkilfcfbolaaDoor
