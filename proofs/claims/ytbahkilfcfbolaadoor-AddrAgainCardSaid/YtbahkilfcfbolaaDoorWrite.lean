/-
  addr.WriteIP, Write, WriteMAC: addresses as they are written. Every address, in every world in which the table lies.
-/
import Derived.Test.YtbahkilfcfbolaaDoorTab
import Derived.Test.YtbahkilfcfbolaaDoorHex
import Derived.Deep.QuietTactic
import Derived.BigQuiet
import Derived.Deep.RegionWith
import Derived.StillTailTactics
namespace Go.Proofs.YtbahkilfcfbolaaDoor
open Go.RowKit

/-- a host's address as it is written -/
def ipT (a : List UInt8) : List UInt8 := Lib.join (a.map fun c => dec c.toNat) [46]
/-- with a port -/
def adT (a : List UInt8) (p : Nat) : List UInt8 := ipT a ++ 58 :: dec p
/-- a card's -/
def macT (a : List UInt8) : List UInt8 := Lib.join (a.map fun c => hexL [c]) [58]

/-- the texts that are there behind k rounds -/
def wrow (f : UInt8 → List UInt8) (a : List UInt8) (k : Nat) : List Value := txts ((a.take k).map f) ++ List.replicate (a.length - k) (txt [])
theorem wrow_get (f : UInt8 → List UInt8) (a : List UInt8) (k : Nat) (h : k < a.length) : (wrow f a k)[k]? = some (txt []) := by
  unfold wrow txts
  rw [List.getElem?_append_right (by simp; omega), List.getElem?_replicate, if_pos (by simp; omega)]
theorem wrow_set (f : UInt8 → List UInt8) (a : List UInt8) (k : Nat) (h : k < a.length) : (wrow f a k).set k (txt (f a[k])) = wrow f a (k + 1) := by
  unfold wrow txts
  rw [List.set_append_right _ _ (by simp; omega), List.take_succ_eq_append_getElem h, List.map_append, List.map_append, List.append_assoc]
  congr 1
  rw [show a.length - k = (a.length - (k + 1)) + 1 from by omega, List.replicate_succ]
  simp [show min k a.length = k from by omega]
theorem wrow_all (f : UInt8 → List UInt8) (a : List UInt8) : wrow f a a.length = txts (a.map f) := by
  unfold wrow
  simp

theorem at2 (w : World) (o1 o2 : Obj) : ((w.alloc o1).alloc o2).heap[w.heap.size + 1]? = some o2 := by
  have h := heap_alloc_new (w.alloc o1) o2
  rw [World.size_alloc] at h
  exact h
theorem row_lt {w : World} {b : Nat} {o : Obj} (h : w.heap[b]? = some o) : b < w.heap.size := (Array.getElem?_eq_some_iff.1 h).1
theorem row_cell {w : World} {b : Nat} {f : UInt8 → List UInt8} {a : List UInt8} {k : Nat} {t : TypeId} (h : w.heap[b]? = some (.cells (wrow f a k).toArray t (0, 0))) (hk : k < a.length) : w.cell? ⟨b, k, none⟩ = some (txt []) := by
  rw [cell_of_row _ _ k _ _ _ h]
  simpa using wrow_get f a k hk
theorem u8_small (x : UInt8) : x.toNat ≤ 9223372036854775807 := by have := x.toNat_lt; omega
theorem itoa_byte (x : UInt8) (w : World) (hR : Ready w) : Calls Tryd.prog 29 #[.int .i64 (wrap64 (x.toNat : Int))] w fun e w' => e = .returned (txt (dec x.toNat)) ∧ Below w.heap.size w w' := by
  have hx := x.toNat_lt
  rw [show wrap64 (x.toNat : Int) = (x.toNat : Int) from IntWalk.wrap64_in _ ⟨by omega, by omega⟩]
  exact itoa_any _ (u8_small x) w hR
/-- one text more -/
theorem row_set {w w2 : World} {b : Nat} {f : UInt8 → List UInt8} {a : List UInt8} {k : Nat} {t : TypeId} (h : w.heap[b]? = some (.cells (wrow f a k).toArray t (0, 0))) (hk : k < a.length) (hb : Below w.heap.size w w2) :
    (w2.setCell ⟨b, k, none⟩ (txt (f a[k]))).heap[b]? = some (.cells (wrow f a (k + 1)).toArray t (0, 0)) := by
  have h2 := (hb.block b (row_lt h)).trans h
  rw [heap_setCell_same _ _ _ _ _ _ h2, ← wrow_set f a k hk]
  simp
theorem row_rd {w : World} {b k : Nat} {f : UInt8 → List UInt8} {a : List UInt8} {t : TypeId} (h : w.heap[b]? = some (.cells (wrow f a k).toArray t (0, 0))) (hk : k = a.length) : Rd w b (b + 1) (some ⟨b, 0, none⟩) (txts (a.map f)) := by
  subst hk
  rw [wrow_all] at h
  intro j u hu
  refine ⟨_, rfl, Nat.le_refl _, Nat.lt_succ_self _, ?_⟩
  have e : ((⟨b, 0, none⟩ : Addr).add j) = ⟨b, j, none⟩ := by
    unfold Addr.add
    by_cases h0 : j = 0 <;> simp [h0]
  rw [e, cell_of_row _ _ j _ _ _ h]
  simpa using hu
theorem cells4 (x0 x1 x2 x3 : UInt8) : (cells [x0, x1, x2, x3]).toArray = #[.int .u8 (x0.toNat : Int), .int .u8 (x1.toNat : Int), .int .u8 (x2.toNat : Int), .int .u8 (x3.toNat : Int)] := rfl
theorem ba_three (a b : List UInt8) (c : UInt8) : (⟨a.toArray⟩ : ByteArray) ++ ⟨#[c]⟩ ++ ⟨b.toArray⟩ = ⟨(a ++ c :: b).toArray⟩ := by
  apply ByteArray.ext
  simp
theorem ipT_len (a : List UInt8) (ha : a.length = 4) : (ipT a).length ≤ 16 := by
  have h := join_le 46 3 (a.map fun c => dec c.toNat) (by
    intro x hx
    obtain ⟨c, _, rfl⟩ := List.mem_map.1 hx
    exact dec_len3 c.toNat c.toNat_lt)
  rw [List.length_map, ha] at h
  exact h
theorem itoa_port (p : Nat) (hp : p < 65536) (w : World) (hR : Ready w) : Calls Tryd.prog 29 #[.int .i64 (IntKind.i64.wrap (p : Int))] w fun e w' => e = .returned (txt (dec p)) ∧ Below w.heap.size w w' := by
  rw [show IntKind.i64.wrap (p : Int) = (p : Int) from IntWalk.i64_in _ ⟨by omega, by omega⟩]
  exact itoa_any _ (by omega) w hR
theorem below_three {w w2 w3 : World} {o : Obj} (hb2 : Below (w.alloc o).drew.heap.size (w.alloc o).drew w2) (hb3 : Below w2.heap.size w2 w3) : Below w.heap.size w w3 := by
  have h1 : Below w.heap.size w (w.alloc o).drew := ((Below.refl _ _).alloc (Nat.le_refl _) o).drew
  have h2 := h1.trans (hb2.mono h1.size)
  exact h2.trans (hb3.mono h2.size)
theorem index_ip (x0 x1 x2 x3 x : UInt8) (k : Nat) (hk : k < 4) (hx : [x0, x1, x2, x3][k]? = some x) (w : World) :
    (Instr.index 23 (.agg #[.int .u8 (x0.toNat : Int), .int .u8 (x1.toNat : Int), .int .u8 (x2.toNat : Int), .int .u8 (x3.toNat : Int)]) (.int .i64 k)).run Tryd.prog w = .ok (.int .u8 (x.toNat : Int)) w := by
  rcases (show k = 0 ∨ k = 1 ∨ k = 2 ∨ k = 3 by omega) with rfl | rfl | rfl | rfl
  · obtain rfl : x0 = x := Option.some.inj hx
    kernel_rfl
  · obtain rfl : x1 = x := Option.some.inj hx
    kernel_rfl
  · obtain rfl : x2 = x := Option.some.inj hx
    kernel_rfl
  · obtain rfl : x3 = x := Option.some.inj hx
    kernel_rfl

set_option maxRecDepth 100000 in
set_option maxHeartbeats 1000000 in
theorem writeip_any (a : List UInt8) (w : World) (ha : a.length = 4) (hR : Ready w) :
    Calls Tryd.prog 16 #[.agg (cells a).toArray] w fun e w' => e = .returned (txt (ipT a)) ∧ Below w.heap.size w w' := by
  obtain ⟨x0, x1, x2, x3, rfl⟩ : ∃ x0 x1 x2 x3, a = [x0, x1, x2, x3] := by
    match a, ha with
    | [x0, x1, x2, x3], _ => exact ⟨x0, x1, x2, x3, rfl⟩
  rw [cells4]
  have hix0 := index_ip x0 x1 x2 x3
  obtain ⟨a, hae⟩ : ∃ a, [x0, x1, x2, x3] = a := ⟨_, rfl⟩
  have hat : wrow (fun c => dec c.toNat) a 0 = [.string ⟨#[]⟩, .string ⟨#[]⟩, .string ⟨#[]⟩, .string ⟨#[]⟩] := by rw [← hae]; rfl
  rw [hae] at ha ⊢
  have HIX : Hid (∀ (k : Nat) (hk : k < a.length) (w : World), (Instr.index 23 (.agg #[.int .u8 (x0.toNat : Int), .int .u8 (x1.toNat : Int), .int .u8 (x2.toNat : Int), .int .u8 (x3.toNat : Int)]) (.int .i64 k)).run Tryd.prog w = .ok (.int .u8 (a[k].toNat : Int)) w) := by
    show ∀ k, _
    intro k hk
    refine hix0 _ k (by omega) ?_
    rw [hae, List.getElem?_eq_getElem hk]
  clear hix0 hae
  have HAT := Lib.hid hat
  clear hat
  go_enter Tryd.func16, Tryd.ntmps16
  go_wp2
  go_loopw [7] (fun i wr => ∃ k : Nat, i = .int .i64 k ∧ k ≤ 4 ∧ wr.heap[w.heap.size + 1]? = some (.cells (wrow (fun c => dec c.toNat) a k).toArray 66 (0, 0)) ∧ Below w.heap.size w wr) (fun i _ => 4 - (intOf i).toNat)
  case atStart => exact ⟨0, rfl, by omega, by rw [HAT.out]; exact at2 _ _ _, ((Below.refl _ _).alloc (Nat.le_refl _) _).alloc (by simp) _⟩
  case round =>
    obtain ⟨k, rfl, hk, hrow, hbl⟩ := hrel
    by_cases hks : k < 4
    · have hka : k < a.length := by rw [ha]; exact hks
      have hc := row_cell hrow hka
      have HROW := Lib.hid hrow
      have HBL := Lib.hid hbl
      clear hrow hbl
      obtain ⟨x, hx⟩ : ∃ x, a[k] = x := ⟨_, rfl⟩
      have hix := HIX.out k hka
      rw [hx] at hix
      have HX := Lib.hid hx
      clear hx
      go_wp2_with fail
      refine (itoa_byte _ _ (hR.below HBL.out (Nat.le_refl _))).mono ?_
      rintro e w2 ⟨rfl, hb2⟩
      have hc2 := (hb2.cell (p := ⟨w.heap.size + 1, _, none⟩) (row_lt HROW.out)).trans hc
      have hfr : w2.frozen? ⟨w.heap.size + 1, k, none⟩ = false := frozen_of_row w2 _ k _ _ ((hb2.block _ (row_lt HROW.out)).trans HROW.out)
      have HW := row_set HROW.out hka hb2
      rw [HX.out] at HW
      have HW := Lib.hid HW
      have HB := Lib.hid ((HBL.out.trans (hb2.mono HBL.out.size)).setCell (p := ⟨w.heap.size + 1, k, none⟩) (by simp) (txt (dec x.toNat)))
      clear hb2
      go_wp2
      go_roundw
      case rel => exact ⟨k + 1, by go_num, by omega, HW.out, HB.out⟩
      case measure => simp [intOf]; omega
    · obtain rfl : k = 4 := by omega
      have hrd := row_rd (k := 4) hrow ha.symm
      have hlt := row_lt hrow
      have hlen : (a.map fun c => dec c.toNat).length = 4 := by rw [List.length_map, ha]
      clear hrow
      have HJ := Lib.hid (join_any (w.heap.size + 1) 4 _ 46 wr hrd hlt (by rw [hlen]; omega) (by
        intro x hx
        obtain ⟨c, _, rfl⟩ := List.mem_map.1 hx
        have := dec_len3 c.toNat c.toNat_lt
        omega) (by rw [hlen]; omega))
      rw [hlen] at HJ
      go_wp2_with fail
      refine HJ.out.mono ?_
      rintro e w2 ⟨rfl, hb2⟩
      go_wp2
      go_ret
      exact ⟨rfl, hbl.trans (hb2.mono hbl.size)⟩

theorem slice_mac (b k : Nat) (hk : k < 6) (w : World) :
    (Instr.sliceAt 41 (.pointer (some ⟨b, 0, none⟩)) (some (.int .i64 k)) (some (.int .i64 ((k : Int) + 1))) none).run Tryd.prog w = .ok (.slice (some ⟨b, k, none⟩) 1 (6 - k)) w := by
  rcases (show k = 0 ∨ k = 1 ∨ k = 2 ∨ k = 3 ∨ k = 4 ∨ k = 5 by omega) with rfl | rfl | rfl | rfl | rfl | rfl
  all_goals kernel_rfl
theorem at1 (w : World) (o1 o2 : Obj) : ((w.alloc o1).alloc o2).heap[w.heap.size]? = some o1 := by
  rw [Below.heap_alloc _ _ _ (by rw [World.size_alloc]; omega)]
  exact heap_alloc_new w o1
theorem rd_byte {w : World} {b k : Nat} {a : List UInt8} {t : TypeId} (h : w.heap[b]? = some (.cells (cells a).toArray t (0, 0))) (hk : k < a.length) : Rd w b (b + 1) (some ⟨b, k, none⟩) (cells [a[k]]) := by
  intro j u hu
  have hj : j = 0 := by
    have := (List.getElem?_eq_some_iff.1 hu).1
    simp [cells] at this
    exact this
  subst hj
  refine ⟨_, rfl, Nat.le_refl _, Nat.lt_succ_self _, ?_⟩
  show w.cell? ⟨b, k, none⟩ = _
  rw [cell_of_row _ _ k _ _ _ h]
  simp [cells] at hu
  subst hu
  simp [cells, hk]

set_option maxRecDepth 100000 in
set_option maxHeartbeats 1000000 in
theorem writemac_any (a : List UInt8) (w : World) (ha : a.length = 6) :
    Calls Tryd.prog 20 #[.agg (cells a).toArray] w fun e w' => e = .returned (txt (macT a)) ∧ Below w.heap.size w w' := by
  obtain ⟨x0, x1, x2, x3, x4, x5, rfl⟩ : ∃ x0 x1 x2 x3 x4 x5, a = [x0, x1, x2, x3, x4, x5] := by
    match a, ha with
    | [x0, x1, x2, x3, x4, x5], _ => exact ⟨x0, x1, x2, x3, x4, x5, rfl⟩
  obtain ⟨a, hae⟩ : ∃ a, [x0, x1, x2, x3, x4, x5] = a := ⟨_, rfl⟩
  have hca : (cells a).toArray = #[.int .u8 (x0.toNat : Int), .int .u8 (x1.toNat : Int), .int .u8 (x2.toNat : Int), .int .u8 (x3.toNat : Int), .int .u8 (x4.toNat : Int), .int .u8 (x5.toNat : Int)] := by rw [← hae]; rfl
  have HAT : Hid (wrow (fun c => hexL [c]) a 0 = [.string ⟨#[]⟩, .string ⟨#[]⟩, .string ⟨#[]⟩, .string ⟨#[]⟩, .string ⟨#[]⟩, .string ⟨#[]⟩]) := by
    show _ = _
    rw [← hae]
    rfl
  rw [hae] at ha ⊢
  have HCA := Lib.hid hca
  rw [hca]
  clear hae hca
  go_enter Tryd.func20, Tryd.ntmps20
  go_wp2
  go_loopw [5] (fun i wr => ∃ k : Nat, i = .int .i64 k ∧ k ≤ 6 ∧ wr.heap[w.heap.size + 1]? = some (.cells (wrow (fun c => hexL [c]) a k).toArray 73 (0, 0)) ∧ wr.heap[w.heap.size]? = some (.cells (cells a).toArray 41 (0, 0)) ∧ Below w.heap.size w wr) (fun i _ => 6 - (intOf i).toNat)
  case atStart => exact ⟨0, rfl, by omega, by rw [HAT.out]; exact at2 _ _ _, by rw [HCA.out]; exact at1 _ _ _, ((Below.refl _ _).alloc (Nat.le_refl _) _).alloc (by simp) _⟩
  case round =>
    obtain ⟨k, rfl, hk, hrow, hbox, hbl⟩ := hrel
    by_cases hks : k < 6
    · have hka : k < a.length := by rw [ha]; exact hks
      have hc := row_cell hrow hka
      have HROW := Lib.hid hrow
      have HBOX := Lib.hid hbox
      have HBL := Lib.hid hbl
      have hsl := slice_mac w.heap.size k hks
      have HRD := Lib.hid (rd_byte hbox hka)
      clear hrow hbl hbox
      obtain ⟨x, hx⟩ : ∃ x, a[k] = x := ⟨_, rfl⟩
      rw [hx] at HRD
      have HX := Lib.hid hx
      clear hx
      go_wp2_with fail
      refine (hex_any _ [x] _ _ _ _ HRD.out (by have := row_lt HROW.out; omega) (by simp)).mono ?_
      rintro e w2 ⟨rfl, hb2⟩
      have hc2 := (hb2.cell (p := ⟨w.heap.size + 1, _, none⟩) (row_lt HROW.out)).trans hc
      have hfr : w2.frozen? ⟨w.heap.size + 1, k, none⟩ = false := frozen_of_row w2 _ k _ _ ((hb2.block _ (row_lt HROW.out)).trans HROW.out)
      have HW := row_set HROW.out hka hb2
      rw [HX.out] at HW
      have HW := Lib.hid HW
      have HBX := Lib.hid ((heap_setCell_other w2 ⟨w.heap.size + 1, k, none⟩ w.heap.size (txt (hexL [x])) (by show w.heap.size ≠ w.heap.size + 1; omega)).trans ((hb2.block _ (row_lt HBOX.out)).trans HBOX.out))
      have HB := Lib.hid ((HBL.out.trans (hb2.mono HBL.out.size)).setCell (p := ⟨w.heap.size + 1, k, none⟩) (by simp) (txt (hexL [x])))
      clear hb2
      go_wp2
      go_roundw
      case rel => exact ⟨k + 1, by go_num, by omega, HW.out, HBX.out, HB.out⟩
      case measure => simp [intOf]; omega
    · obtain rfl : k = 6 := by omega
      have hrd := row_rd (k := 6) hrow ha.symm
      have hlt := row_lt hrow
      have hlen : (a.map fun c => hexL [c]).length = 6 := by rw [List.length_map, ha]
      clear hrow hbox
      have HJ := Lib.hid (join_any (w.heap.size + 1) 6 _ 58 wr hrd hlt (by rw [hlen]; omega) (by
        intro x hx
        obtain ⟨c, _, rfl⟩ := List.mem_map.1 hx
        rw [hexL_length]
        simp) (by rw [hlen]; omega))
      rw [hlen] at HJ
      go_wp2_with fail
      refine HJ.out.mono ?_
      rintro e w2 ⟨rfl, hb2⟩
      go_wp2
      go_ret
      exact ⟨rfl, hbl.trans (hb2.mono hbl.size)⟩

set_option maxRecDepth 100000 in
set_option maxHeartbeats 1000000 in
theorem write_any (a : List UInt8) (p : Nat) (w : World) (ha : a.length = 4) (hp : p < 65536) (hR : Ready w) :
    Calls Tryd.prog 14 #[.agg (cells a ++ [Value.int .u16 p]).toArray] w fun e w' => e = .returned (txt (adT a p)) ∧ Below w.heap.size w w' := by
  obtain ⟨x0, x1, x2, x3, rfl⟩ : ∃ x0 x1 x2 x3, a = [x0, x1, x2, x3] := by
    match a, ha with
    | [x0, x1, x2, x3], _ => exact ⟨x0, x1, x2, x3, rfl⟩
  rw [show (cells [x0, x1, x2, x3] ++ [Value.int .u16 p]).toArray = #[.int .u8 (x0.toNat : Int), .int .u8 (x1.toNat : Int), .int .u8 (x2.toNat : Int), .int .u8 (x3.toNat : Int), .int .u16 p] from rfl]
  go_enter Tryd.func14, Tryd.ntmps14
  have hp1 : (p : Int) ≤ 65535 := by omega
  have HT : Hid (Value.string (⟨(ipT [x0, x1, x2, x3]).toArray⟩ ++ ⟨#[58]⟩ ++ ⟨(dec p).toArray⟩) = txt (adT [x0, x1, x2, x3] p)) := by
    show _ = _
    unfold adT
    exact congrArg Value.string (ba_three _ _ _)
  have hW := fun w hw => writeip_any [x0, x1, x2, x3] w rfl hw
  rw [cells4] at hW
  have hlt := ipT_len [x0, x1, x2, x3] rfl
  have hld := dec_len5 p hp
  generalize ipT [x0, x1, x2, x3] = t at hW HT hlt
  have HR1 : Hid (∀ o, Ready (w.alloc o).drew) := fun o => hR.below ((Below.refl _ _).alloc (Nat.le_refl _) o).drew (Nat.le_refl _)
  go_upto_region 1 with (fail)
  go_region_with (first | (go_at_call 16; refine (hW _ (HR1.out _)).mono ?_; rintro e w2 ⟨rfl, hb2⟩; have hc2 := hb2.cell (p := ⟨w.heap.size, 4, none⟩) (by simp)) | (go_at_call 29; (first | refine (itoa_port p hp _ ((HR1.out _).below (by assumption) (Nat.le_refl _))).mono ?_ | refine (itoa_any p (by omega) _ ((HR1.out _).below (by assumption) (Nat.le_refl _))).mono ?_); rintro e w3 ⟨rfl, hb3⟩))
  all_goals
    clear hW hc2
    go_wp2
    go_ret
    exact ⟨congrArg Ending.returned HT.out, below_three hb2 hb3⟩
end Go.Proofs.YtbahkilfcfbolaaDoor
