/-
  addr.ReadMAC, addr.All: which texts are a card's address, and whose. Every text of at most a milliard bytes, in every world in which the table lies.
-/
import Derived.Test.YtbahkilfcfbolaaDoorReadAd
namespace Go.Proofs.YtbahkilfcfbolaaDoor
open Go.RowKit

theorem dig_dig : ∀ q : Fin 16, isDig (dig q.val).toNat = true ∧ dv (dig q.val).toNat = q.val := by decide +kernel
theorem dig_back : ∀ x : Fin 256, isDig x.val = true → (dig (dv x.val)).toNat = x.val := by decide +kernel
theorem dig_dv_back (x : UInt8) (h : isDig x.toNat = true) : dig (dv x.toNat) = x := UInt8.toNat_inj.1 (dig_back ⟨x.toNat, x.toNat_lt⟩ h)
/-- two signs are a byte's, or none's -/
theorem hex2_cases (q : List UInt8) (hq : q.length = 2) : (∃ c, q = hexL [c] ∧ unhexS q = ([c], 0)) ∨ (unhexS q = ([], 7) ∧ ∀ c, q ≠ hexL [c]) := by
  match q, hq with
  | [x, y], _ =>
  by_cases h : isDig x.toNat = true ∧ isDig y.toNat = true
  · obtain ⟨hx, hy⟩ := h
    have h1 := dv_lt _ hx
    have h2 := dv_lt _ hy
    refine .inl ⟨UInt8.ofNat (16 * dv x.toNat + dv y.toNat), ?_, ?_⟩
    · rw [hex1, ofNat_toNat (by omega), show (16 * dv x.toNat + dv y.toNat) / 16 = dv x.toNat from by omega, show (16 * dv x.toNat + dv y.toNat) % 16 = dv y.toNat from by omega, dig_dv_back x hx, dig_dv_back y hy]
    · unfold unhexS
      rw [if_pos (by simp [hx, hy]), if_neg (by simp)]
      simp [unhexK, hexPair]
  · refine .inr ⟨?_, fun c e => h ?_⟩
    · unfold unhexS
      rw [if_neg (by simpa using h)]
    · rw [hex1] at e
      simp only [List.cons.injEq, and_true] at e
      have hc := c.toNat_lt
      rw [e.1, e.2]
      exact ⟨(dig_dig ⟨c.toNat / 16, by omega⟩).1, (dig_dig ⟨c.toNat % 16, by omega⟩).1⟩

theorem all_any (w : World) : Calls Tryd.prog 22 #[] w fun e w' => e = .returned (.agg (cells [255, 255, 255, 255, 255, 255]).toArray) ∧ Below w.heap.size w w' := by
  go_enter Tryd.func22, Tryd.ntmps22
  go_wp2
  (try simp only [Exit.inBlock, Exit.then])
  refine bodyPost_ret (results_cell_row rfl _ _ w.heap.size _ _ (0, 0) _ rfl (heap_alloc_new w _) Tryd.underlying41 rfl (by kernel_rfl)) rfl ?_
  exact ⟨rfl, (Below.refl _ _).alloc (Nat.le_refl _) _⟩

theorem six_cells {w : World} {b : Nat} {x0 x1 x2 x3 x4 x5 : UInt8} {t : TypeId} (h : w.heap[b]? = some (.cells (cells [x0, x1, x2, x3, x4, x5]).toArray t (0, 0))) :
    w.cell? ⟨b, 0, none⟩ = some (.int .u8 (x0.toNat : Int)) ∧ w.cell? ⟨b, 1, none⟩ = some (.int .u8 (x1.toNat : Int)) ∧ w.cell? ⟨b, 2, none⟩ = some (.int .u8 (x2.toNat : Int)) ∧ w.cell? ⟨b, 3, none⟩ = some (.int .u8 (x3.toNat : Int)) ∧ w.cell? ⟨b, 4, none⟩ = some (.int .u8 (x4.toNat : Int)) ∧ w.cell? ⟨b, 5, none⟩ = some (.int .u8 (x5.toNat : Int)) :=
  ⟨box_at h 0 (by simp), box_at h 1 (by simp), box_at h 2 (by simp), box_at h 3 (by simp), box_at h 4 (by simp), box_at h 5 (by simp)⟩

theorem readmac_short (l : List UInt8) (w : World) (hl : l.length ≤ 1000000000) (hp : (parts 58 6 l).length ≠ 6) (hR : Ready w) :
    Calls Tryd.prog 18 #[txt l] w fun e w' => e = .returned (.tuple #[.agg (cells (macOf l).1).toArray, .int .i64 (macOf l).2]) ∧ Below w.heap.size w w' := by
  have HP : Hid (macOf l = ([0, 0, 0, 0, 0, 0], 7)) := macOf_miss l fun a ha e => hp (by rw [← e, mac_parts a ha, List.length_map, ha])
  go_enter Tryd.func18, Tryd.ntmps18
  go_wp2_with fail
  have HB1 := Lib.hid (((Below.refl w.heap.size w).alloc (Nat.le_refl _) (Obj.cells #[Value.int IntKind.u8 0, Value.int IntKind.u8 0, Value.int IntKind.u8 0, Value.int IntKind.u8 0, Value.int IntKind.u8 0, Value.int IntKind.u8 0] 41)).alloc (by simp) (Obj.cells #[Value.int IntKind.u8 0, Value.int IntKind.u8 0, Value.int IntKind.u8 0, Value.int IntKind.u8 0, Value.int IntKind.u8 0, Value.int IntKind.u8 0] 41))
  refine (pieces_miss l 58 6 _ hl (by omega) hp (hR.below HB1.out (Nat.le_refl _))).mono ?_
  rintro e w1 ⟨v, rfl, hb⟩
  have hz : w1.heap[w.heap.size]? = some (.cells (cells [0, 0, 0, 0, 0, 0]).toArray 41 (0, 0)) := (hb.block _ (by simp; omega)).trans (at1 w _ _)
  obtain ⟨hc0, hc1, hc2, hc3, hc4, hc5⟩ := six_cells hz
  have hf := fun j => frozen_of_row w1 _ j _ _ hz
  have HB := Lib.hid (HB1.out.trans (hb.mono HB1.out.size))
  have HZ := Lib.hid hz
  clear hb hz
  go_wp2
  (try simp only [Exit.inBlock, Exit.then])
  refine ret_row (g := w.heap.size) (cs := #[.int .u8 0, .int .u8 0, .int .u8 0, .int .u8 0, .int .u8 0, .int .u8 0]) rfl rfl (load_mac (set6 HZ.out _ _ _ _ _ _) rfl) rfl ?_
  rw [HP.out]
  exact ⟨rfl, below_set6 HB.out (Nat.le_refl _) _ _ _ _ _ _⟩

set_option maxRecDepth 100000 in
set_option maxHeartbeats 2000000 in
theorem readmac_full (l : List UInt8) (w : World) (hl : l.length ≤ 1000000000) (hp : (parts 58 6 l).length = 6) (hR : Ready w) :
    Calls Tryd.prog 18 #[txt l] w fun e w' => e = .returned (.tuple #[.agg (cells (macOf l).1).toArray, .int .i64 (macOf l).2]) ∧ Below w.heap.size w w' := by
  have HJ := Lib.hid (parts_join 58 6 l)
  have HMC : Hid (∀ a : List UInt8, a.length = 6 → macT a = l → parts 58 6 l = a.map fun c => hexL [c]) := fun a ha e => by rw [← e]; exact mac_parts a ha
  have HPL : Hid (∀ k, k < 6 → ∀ (hk : k < (parts 58 6 l).length), (parts 58 6 l)[k].length ≤ 1000000000) := fun k _ hk => Nat.le_trans (part_len _ _ _ _ hk) hl
  go_enter Tryd.func18, Tryd.ntmps18
  go_wp2_with fail
  have HB1 := Lib.hid (((Below.refl w.heap.size w).alloc (Nat.le_refl _) (Obj.cells #[Value.int IntKind.u8 0, Value.int IntKind.u8 0, Value.int IntKind.u8 0, Value.int IntKind.u8 0, Value.int IntKind.u8 0, Value.int IntKind.u8 0] 41)).alloc (by simp) (Obj.cells #[Value.int IntKind.u8 0, Value.int IntKind.u8 0, Value.int IntKind.u8 0, Value.int IntKind.u8 0, Value.int IntKind.u8 0, Value.int IntKind.u8 0] 41))
  refine (pieces_hit l 58 6 _ hl (by omega) hp (hR.below HB1.out (Nat.le_refl _))).mono ?_
  rintro e w1 ⟨cap, rfl, hrd, hb⟩
  rw [World.size_alloc, World.size_alloc] at *
  have HST : Hid (RdSt (fun c => hexL [c]) (parts 58 6 l) 6 41 w 0 w1) := by
    refine ⟨[], rfl, by omega, rfl, ?_, ?_, ?_, ?_⟩
    · exact (hb.block _ (by omega)).trans (at1 w _ _)
    · exact (hb.block _ (by omega)).trans (at2 w _ _)
    · exact hrd
    · exact HB1.out.trans (hb.mono (by omega))
  generalize parts 58 6 l = ps at *
  clear hb hrd
  go_wp2
  go_loopw [21] (fun i wr => ∃ k : Nat, i = .int .i64 k ∧ RdSt (fun c => hexL [c]) ps 6 41 w k wr) (fun i _ => 6 - (intOf i).toNat)
  case atStart => exact ⟨0, rfl, HST.out⟩
  case round =>
    obtain ⟨k, rfl, hst⟩ := hrel
    have hk : k ≤ 6 := by
      obtain ⟨_, _, h, _⟩ := hst
      exact h
    by_cases hks : k < 6
    · have hkp : k < ps.length := by omega
      have hpc := rdst_part hst hkp
      obtain ⟨hac, hlt⟩ := rdst_cell hst hks
      have hpl := HPL.out k hks hkp
      obtain ⟨q, hq⟩ : ∃ q, ps[k] = q := ⟨_, rfl⟩
      rw [hq] at hpc hpl
      have HQ := Lib.hid hq
      have HST2 := Lib.hid hst
      have HB : Hid (Below w.heap.size w wr) := by
        obtain ⟨_, _, _, _, _, _, _, h⟩ := hst
        exact h
      clear hst hq
      have HMISS : Hid ((∀ c, q ≠ hexL [c]) → macOf l = ([0, 0, 0, 0, 0, 0], 7)) := fun hno => macOf_miss l fun a ha e => by
        have h := HMC.out a ha e
        have hka : k < a.length := by omega
        have h2 : ps[k] = hexL [a[k]] := by simp only [h, List.getElem_map]
        exact hno a[k] (by rw [← h2, HQ.out])
      by_cases hq2 : q.length = 2
      · rcases hex2_cases q hq2 with ⟨c, hqc, hun⟩ | ⟨hun, hno⟩
        · have HUN := Lib.hid hun
          have HQC := Lib.hid hqc
          clear hun hqc
          go_wp2_with fail
          refine (unhex_any q _ hpl).mono ?_
          rintro e w2 ⟨A, cap2, rfl, hrd2, hb2⟩
          rw [HUN.out] at hrd2 ⊢
          obtain ⟨ad, rfl, hcb⟩ := hrd2.byte (k := 0) (by simp)
          have hcb2 : w2.cell? ad = some (.int .u8 (c.toNat : Int)) := by simpa [Addr.add] using hcb
          have hac2 := (hb2.cell (p := ⟨w.heap.size + 1, k, none⟩) hlt).trans hac
          have hfr : w2.frozen? ⟨w.heap.size + 1, k, none⟩ = false := by
            obtain ⟨_, _, _, _, _, h5, _, _⟩ := HST2.out
            exact frozen_of_row w2 _ k _ _ ((hb2.block _ (row_lt h5)).trans h5)
          have HN := Lib.hid (rdst_step HST2.out hks hkp c (by rw [HQ.out]; exact HQC.out) hb2)
          clear hb2 hrd2
          go_wp2
          go_roundw
          case rel => exact ⟨k + 1, by go_num, HN.out⟩
          case measure => simp [intOf]; omega
        · have HUN := Lib.hid hun
          have HP := Lib.hid (HMISS.out hno)
          clear hun hno
          go_wp2_with fail
          refine (unhex_any q _ hpl).mono ?_
          rintro e w2 ⟨A, cap2, rfl, hrd2, hb2⟩
          rw [HUN.out]
          have hz : w2.heap[w.heap.size]? = some (.cells (cells [0, 0, 0, 0, 0, 0]).toArray 41 (0, 0)) := by
            obtain ⟨_, _, _, _, h4, _, _, _⟩ := HST2.out
            exact (hb2.block _ (row_lt h4)).trans h4
          obtain ⟨hc0, hc1, hc2, hc3, hc4, hc5⟩ := six_cells hz
          have hf := fun j => frozen_of_row w2 _ j _ _ hz
          have HB2 := Lib.hid (HB.out.trans (hb2.mono HB.out.size))
          have HZ := Lib.hid hz
          clear hb2 hz hac hrd2
          go_wp2
          (try simp only [Exit.inBlock, Exit.then])
          refine ret_row (g := w.heap.size) (cs := #[.int .u8 0, .int .u8 0, .int .u8 0, .int .u8 0, .int .u8 0, .int .u8 0]) rfl rfl (load_mac (set6 HZ.out _ _ _ _ _ _) rfl) rfl ?_
          rw [HP.out]
          exact ⟨rfl, below_set6 HB2.out (Nat.le_refl _) _ _ _ _ _ _⟩
      · have HP := Lib.hid (HMISS.out fun c e => hq2 (by rw [e, hexL_length]; rfl))
        have hz : wr.heap[w.heap.size]? = some (.cells (cells [0, 0, 0, 0, 0, 0]).toArray 41 (0, 0)) := by
          obtain ⟨_, _, _, _, h4, _, _, _⟩ := HST2.out
          exact h4
        obtain ⟨hc0, hc1, hc2, hc3, hc4, hc5⟩ := six_cells hz
        have hf := fun j => frozen_of_row wr _ j _ _ hz
        have HZ := Lib.hid hz
        have hq3 : ((q.length : Int) != 2) = true := by
          rw [bne_iff_ne]
          omega
        clear hz hac
        go_wp2
        (try simp only [Exit.inBlock, Exit.then])
        refine ret_row (g := w.heap.size) (cs := #[.int .u8 0, .int .u8 0, .int .u8 0, .int .u8 0, .int .u8 0, .int .u8 0]) rfl rfl (load_mac (set6 HZ.out _ _ _ _ _ _) rfl) rfl ?_
        rw [HP.out]
        exact ⟨rfl, below_set6 HB.out (Nat.le_refl _) _ _ _ _ _ _⟩
    · obtain rfl : k = 6 := by omega
      obtain ⟨bs, hbl, _, htk, h4, h5, _, hbw⟩ := hst
      rw [List.take_of_length_le (by omega)] at htk
      have HP : Hid (macOf l = (bs, 0)) := by
        have := HJ.out
        rw [htk] at this
        show _ = _
        rw [← this]
        exact macOf_hit bs hbl
      have h5 : wr.heap[w.heap.size + 1]? = some (.cells (cells bs).toArray 41 (0, 0)) := by
        have e : brow bs 6 = bs := by rw [← hbl]; exact brow_all bs
        rw [e] at h5
        exact h5
      match bs, hbl with
      | [x0, x1, x2, x3, x4, x5], _ =>
        obtain ⟨ha0, ha1, ha2, ha3, ha4, ha5⟩ := six_cells h5
        obtain ⟨hc0, hc1, hc2, hc3, hc4, hc5⟩ := six_cells h4
        have hf := fun j => frozen_of_row wr _ j _ _ h4
        have HZ := Lib.hid h4
        have HB := Lib.hid hbw
        clear h4 h5 hbw htk
        go_wp2
        (try simp only [Exit.inBlock, Exit.then])
        refine ret_row (g := w.heap.size) (cs := (cells [x0, x1, x2, x3, x4, x5]).toArray) rfl rfl (load_mac (set6 HZ.out _ _ _ _ _ _) rfl) rfl ?_
        rw [HP.out]
        exact ⟨rfl, below_set6 HB.out (Nat.le_refl _) _ _ _ _ _ _⟩

theorem readmac_any (l : List UInt8) (w : World) (hl : l.length ≤ 1000000000) (hR : Ready w) :
    Calls Tryd.prog 18 #[txt l] w fun e w' => e = .returned (.tuple #[.agg (cells (macOf l).1).toArray, .int .i64 (macOf l).2]) ∧ Below w.heap.size w w' := by
  by_cases hp : (parts 58 6 l).length = 6
  · exact readmac_full l w hl hp hR
  · exact readmac_short l w hl hp hR
end Go.Proofs.YtbahkilfcfbolaaDoor
