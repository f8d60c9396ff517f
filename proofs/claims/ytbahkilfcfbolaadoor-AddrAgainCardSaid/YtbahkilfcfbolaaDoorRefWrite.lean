/-
  The document's own answers for addresses as they are written (caravelref04.IP, Addr, MAC): they are the plain functions of the contracts. Every address, in every world in which the table lies.
-/
import Derived.Test.YtbahkilfcfbolaaDoorWrite
import Derived.Test.YtbahkilfcfbolaaDoorRefText
namespace Go.Proofs.YtbahkilfcfbolaaDoor
open Go.RowKit

/-- the text that is there behind k rounds -/
def jrow (f : UInt8 → List UInt8) (c : UInt8) (a : List UInt8) (k : Nat) : List UInt8 := Lib.join ((a.take k).map f) [c]
theorem join_snoc (c : UInt8) (y : List UInt8) : ∀ (x : List UInt8) (r : List (List UInt8)), Lib.join (x :: r ++ [y]) [c] = Lib.join (x :: r) [c] ++ c :: y
  | x, [] => by
    show Lib.join (x :: y :: []) [c] = _
    rw [join_two, Lib.join_one, Lib.join_one]
    rfl
  | x, z :: r => by
    have ih := join_snoc c y z r
    show Lib.join (x :: z :: (r ++ [y])) [c] = _
    rw [join_two, join_two]
    rw [show z :: (r ++ [y]) = z :: r ++ [y] from rfl, ih]
    simp
theorem jrow_zero (f : UInt8 → List UInt8) (c : UInt8) (a : List UInt8) (h : 0 < a.length) : jrow f c a 1 = f a[0] := by
  unfold jrow
  rw [List.take_succ_eq_append_getElem h]
  simp [Lib.join_one]
theorem jrow_step (f : UInt8 → List UInt8) (c : UInt8) (a : List UInt8) (k : Nat) (h : k < a.length) (hk : 1 ≤ k) : jrow f c a (k + 1) = jrow f c a k ++ c :: f a[k] := by
  unfold jrow
  rw [List.take_succ_eq_append_getElem h, List.map_append]
  cases hx : (a.take k).map f with
  | nil =>
    have := congrArg List.length hx
    rw [List.length_map, List.length_take, List.length_nil] at this
    omega
  | cons x r => exact join_snoc c _ x r
theorem jrow_len (f : UInt8 → List UInt8) (c : UInt8) (a : List UInt8) (k : Nat) (h : ∀ x, (f x).length ≤ 3) (ha : a.length ≤ 10) : (jrow f c a k).length ≤ 40 := by
  have h1 := join_le c 3 ((a.take k).map f) (by
    intro x hx
    obtain ⟨c, _, rfl⟩ := List.mem_map.1 hx
    exact h c)
  have h2 : ((a.take k).map f).length ≤ 10 := by
    rw [List.length_map, List.length_take]
    omega
  unfold jrow
  omega
theorem box_cell {w : World} {b k : Nat} {a : List UInt8} {t : TypeId} (h : w.heap[b]? = some (.cells (cells a).toArray t (0, 0))) (hk : k < a.length) : w.cell? ⟨b, k, none⟩ = some (.int .u8 (a[k].toNat : Int)) := by
  rw [cell_of_row _ _ k _ _ _ h]
  simp [cells, hk]
theorem ba_mark (a : List UInt8) (c : UInt8) (b : List UInt8) : (⟨a.toArray⟩ : ByteArray) ++ ⟨#[c]⟩ ++ ⟨b.toArray⟩ = ⟨(a ++ c :: b).toArray⟩ := ba_three a b c
theorem ba_nil (b : List UInt8) : (⟨#[]⟩ : ByteArray) ++ ⟨b.toArray⟩ = ⟨b.toArray⟩ := by
  apply ByteArray.ext
  simp

set_option maxRecDepth 100000 in
set_option maxHeartbeats 1000000 in
theorem refip_any (a : List UInt8) (w : World) (ha : a.length = 4) (hR : Ready w) :
    Calls Tryd.prog 17 #[.agg (cells a).toArray] w fun e w' => e = .returned (txt (ipT a)) ∧ Below w.heap.size w w' := by
  obtain ⟨x0, x1, x2, x3, rfl⟩ : ∃ x0 x1 x2 x3, a = [x0, x1, x2, x3] := by
    match a, ha with
    | [x0, x1, x2, x3], _ => exact ⟨x0, x1, x2, x3, rfl⟩
  obtain ⟨a, hae⟩ : ∃ a, [x0, x1, x2, x3] = a := ⟨_, rfl⟩
  have hca : (cells a).toArray = #[.int .u8 (x0.toNat : Int), .int .u8 (x1.toNat : Int), .int .u8 (x2.toNat : Int), .int .u8 (x3.toNat : Int)] := by rw [← hae]; rfl
  rw [hae] at ha ⊢
  have HCA := Lib.hid hca
  rw [hca]
  clear hae hca
  go_enter Tryd.func17, Tryd.ntmps17
  go_wp2
  go_loopw [3, 4] (fun s i wr => ∃ k : Nat, i = .int .i64 k ∧ s = txt (jrow (fun c => dec c.toNat) 46 a k) ∧ k ≤ 4 ∧ wr.heap[w.heap.size]? = some (.cells (cells a).toArray 23 (0, 0)) ∧ Below w.heap.size w wr) (fun _ i _ => 4 - (intOf i).toNat)
  case atStart => exact ⟨0, rfl, rfl, by omega, by rw [HCA.out]; exact heap_alloc_new w _, (Below.refl _ _).alloc (Nat.le_refl _) _⟩
  case round =>
    obtain ⟨k, rfl, rfl, hk, hbox, hbl⟩ := hrel
    have hjl := jrow_len (fun c => dec c.toNat) 46 a k (fun x => dec_len3 x.toNat x.toNat_lt) (by omega)
    by_cases hks : k < 4
    · have hka : k < a.length := by rw [ha]; exact hks
      have hc := box_cell hbox hka
      have HBOX := Lib.hid hbox
      have HBL := Lib.hid hbl
      clear hbl hbox
      rcases Nat.eq_zero_or_pos k with h0 | h0
      · subst h0
        have HT := Lib.hid (jrow_zero (fun c => dec c.toNat) 46 a hka)
        have hj0 : jrow (fun c => dec c.toNat) 46 a 0 = [] := rfl
        rw [hj0]
        obtain ⟨x, hx⟩ : ∃ x, a[0] = x := ⟨_, rfl⟩
        rw [hx] at hc HT
        have hxl := dec_len3 x.toNat x.toNat_lt
        clear hx hj0 hjl
        go_wp2_with fail
        refine (itoa_byte _ _ (hR.below HBL.out (Nat.le_refl _))).mono ?_
        rintro e w2 ⟨rfl, hb2⟩
        have HBX := Lib.hid ((hb2.block _ (row_lt HBOX.out)).trans HBOX.out)
        have HB := Lib.hid (HBL.out.trans (hb2.mono HBL.out.size))
        clear hb2
        go_wp2
        go_roundw
        case rel => exact ⟨1, by go_num, by rw [HT.out]; exact congrArg Value.string (ba_nil _), by omega, HBX.out, HB.out⟩
        case measure => simp [intOf]
      · have HT := Lib.hid (jrow_step (fun c => dec c.toNat) 46 a k hka h0)
        obtain ⟨x, hx⟩ : ∃ x, a[k] = x := ⟨_, rfl⟩
        rw [hx] at hc HT
        have hxl := dec_len3 x.toNat x.toNat_lt
        clear hx
        generalize jrow (fun c => dec c.toNat) 46 a k = t at *
        go_wp2_with fail
        refine (itoa_byte _ _ (hR.below HBL.out (Nat.le_refl _))).mono ?_
        rintro e w2 ⟨rfl, hb2⟩
        have HBX := Lib.hid ((hb2.block _ (row_lt HBOX.out)).trans HBOX.out)
        have HB := Lib.hid (HBL.out.trans (hb2.mono HBL.out.size))
        clear hb2
        go_wp2
        go_roundw
        case rel => exact ⟨k + 1, by go_num, by rw [HT.out]; exact congrArg Value.string (ba_mark _ _ _), by omega, HBX.out, HB.out⟩
        case measure => simp [intOf]; omega
    · obtain rfl : k = 4 := by omega
      have HJ : Hid (jrow (fun c => dec c.toNat) 46 a 4 = ipT a) := by
        show _ = _
        unfold jrow ipT
        rw [List.take_of_length_le (by omega)]
      clear hbox
      go_wp2
      go_ret
      rw [HJ.out]
      exact ⟨rfl, hbl⟩

set_option maxRecDepth 100000 in
set_option maxHeartbeats 1000000 in
theorem refmac_any (a : List UInt8) (w : World) (ha : a.length = 6) :
    Calls Tryd.prog 21 #[.agg (cells a).toArray] w fun e w' => e = .returned (txt (macT a)) ∧ Below w.heap.size w w' := by
  obtain ⟨x0, x1, x2, x3, x4, x5, rfl⟩ : ∃ x0 x1 x2 x3 x4 x5, a = [x0, x1, x2, x3, x4, x5] := by
    match a, ha with
    | [x0, x1, x2, x3, x4, x5], _ => exact ⟨x0, x1, x2, x3, x4, x5, rfl⟩
  obtain ⟨a, hae⟩ : ∃ a, [x0, x1, x2, x3, x4, x5] = a := ⟨_, rfl⟩
  have hca : (cells a).toArray = #[.int .u8 (x0.toNat : Int), .int .u8 (x1.toNat : Int), .int .u8 (x2.toNat : Int), .int .u8 (x3.toNat : Int), .int .u8 (x4.toNat : Int), .int .u8 (x5.toNat : Int)] := by rw [← hae]; rfl
  rw [hae] at ha ⊢
  have HCA := Lib.hid hca
  rw [hca]
  clear hae hca
  have hfl : ∀ x : UInt8, (hexL [x]).length ≤ 3 := fun x => by rw [hexL_length]; simp
  have HFL := Lib.hid hfl
  clear hfl
  go_enter Tryd.func21, Tryd.ntmps21
  go_wp2
  go_loopw [3, 4] (fun s i wr => ∃ k : Nat, i = .int .i64 k ∧ s = txt (jrow (fun c => hexL [c]) 58 a k) ∧ k ≤ 6 ∧ wr.heap[w.heap.size]? = some (.cells (cells a).toArray 41 (0, 0)) ∧ Below w.heap.size w wr) (fun _ i _ => 6 - (intOf i).toNat)
  case atStart => exact ⟨0, rfl, rfl, by omega, by rw [HCA.out]; exact heap_alloc_new w _, (Below.refl _ _).alloc (Nat.le_refl _) _⟩
  case round =>
    obtain ⟨k, rfl, rfl, hk, hbox, hbl⟩ := hrel
    have hjl := jrow_len (fun c => hexL [c]) 58 a k HFL.out (by omega)
    by_cases hks : k < 6
    · have hka : k < a.length := by rw [ha]; exact hks
      have hc := box_cell hbox hka
      have HBOX := Lib.hid hbox
      have HBL := Lib.hid hbl
      clear hbl hbox
      rcases Nat.eq_zero_or_pos k with h0 | h0
      · subst h0
        have HT := Lib.hid (jrow_zero (fun c => hexL [c]) 58 a hka)
        have hj0 : jrow (fun c => hexL [c]) 58 a 0 = [] := rfl
        rw [hj0]
        obtain ⟨x, hx⟩ : ∃ x, a[0] = x := ⟨_, rfl⟩
        rw [hx] at hc HT
        have hxl := HFL.out x
        have hcv := run_one wr x
        clear hx hj0 hjl
        go_wp2_with fail
        refine (refhex_any [x] _ (by simp)).mono ?_
        rintro e w2 ⟨rfl, hb2⟩
        have HBX := Lib.hid ((hb2.block _ (by rw [World.size_alloc]; exact Nat.lt_succ_of_lt (row_lt HBOX.out))).trans ((Below.heap_alloc _ _ _ (row_lt HBOX.out)).trans HBOX.out))
        have HB := Lib.hid ((HBL.out.alloc HBL.out.size _).trans (hb2.mono (by rw [World.size_alloc]; exact Nat.le_succ_of_le HBL.out.size)))
        clear hb2 hcv
        go_wp2
        go_roundw
        case rel => exact ⟨1, by go_num, by rw [HT.out]; exact congrArg Value.string (ba_nil _), by omega, HBX.out, HB.out⟩
        case measure => simp [intOf]
      · have HT := Lib.hid (jrow_step (fun c => hexL [c]) 58 a k hka h0)
        obtain ⟨x, hx⟩ : ∃ x, a[k] = x := ⟨_, rfl⟩
        rw [hx] at hc HT
        have hxl := HFL.out x
        have hcv := run_one wr x
        clear hx
        generalize jrow (fun c => hexL [c]) 58 a k = t at *
        go_wp2_with fail
        refine (refhex_any [x] _ (by simp)).mono ?_
        rintro e w2 ⟨rfl, hb2⟩
        have HBX := Lib.hid ((hb2.block _ (by rw [World.size_alloc]; exact Nat.lt_succ_of_lt (row_lt HBOX.out))).trans ((Below.heap_alloc _ _ _ (row_lt HBOX.out)).trans HBOX.out))
        have HB := Lib.hid ((HBL.out.alloc HBL.out.size _).trans (hb2.mono (by rw [World.size_alloc]; exact Nat.le_succ_of_le HBL.out.size)))
        clear hb2 hcv
        go_wp2
        go_roundw
        case rel => exact ⟨k + 1, by go_num, by rw [HT.out]; exact congrArg Value.string (ba_mark _ _ _), by omega, HBX.out, HB.out⟩
        case measure => simp [intOf]; omega
    · obtain rfl : k = 6 := by omega
      have HJ : Hid (jrow (fun c => hexL [c]) 58 a 6 = macT a) := by
        show _ = _
        unfold jrow macT
        rw [List.take_of_length_le (by omega)]
      clear hbox
      go_wp2
      go_ret
      rw [HJ.out]
      exact ⟨rfl, hbl⟩

set_option maxRecDepth 100000 in
set_option maxHeartbeats 1000000 in
theorem refaddr_any (a : List UInt8) (p : Nat) (w : World) (ha : a.length = 4) (hp : p < 65536) (hR : Ready w) :
    Calls Tryd.prog 15 #[.agg (cells a ++ [Value.int .u16 p]).toArray] w fun e w' => e = .returned (txt (adT a p)) ∧ Below w.heap.size w w' := by
  obtain ⟨x0, x1, x2, x3, rfl⟩ : ∃ x0 x1 x2 x3, a = [x0, x1, x2, x3] := by
    match a, ha with
    | [x0, x1, x2, x3], _ => exact ⟨x0, x1, x2, x3, rfl⟩
  rw [show (cells [x0, x1, x2, x3] ++ [Value.int .u16 p]).toArray = #[.int .u8 (x0.toNat : Int), .int .u8 (x1.toNat : Int), .int .u8 (x2.toNat : Int), .int .u8 (x3.toNat : Int), .int .u16 p] from rfl]
  go_enter Tryd.func15, Tryd.ntmps15
  have hp1 : (p : Int) ≤ 65535 := by omega
  have HT : Hid (Value.string (⟨(ipT [x0, x1, x2, x3]).toArray⟩ ++ ⟨#[58]⟩ ++ ⟨(dec p).toArray⟩) = txt (adT [x0, x1, x2, x3] p)) := by
    show _ = _
    unfold adT
    exact congrArg Value.string (ba_three _ _ _)
  have hW := fun w hw => refip_any [x0, x1, x2, x3] w rfl hw
  rw [cells4] at hW
  have hlt := ipT_len [x0, x1, x2, x3] rfl
  have hld := dec_len5 p hp
  generalize ipT [x0, x1, x2, x3] = t at hW HT hlt
  have HR1 : Hid (∀ o, Ready (w.alloc o).drew) := fun o => hR.below ((Below.refl _ _).alloc (Nat.le_refl _) o).drew (Nat.le_refl _)
  go_upto_region 1 with (fail)
  go_region_with (first | (go_at_call 17; refine (hW _ (HR1.out _)).mono ?_; rintro e w2 ⟨rfl, hb2⟩; have hc2 := hb2.cell (p := ⟨w.heap.size, 4, none⟩) (by simp)) | (go_at_call 29; (first | refine (itoa_port p hp _ ((HR1.out _).below (by assumption) (Nat.le_refl _))).mono ?_ | refine (itoa_any p (by omega) _ ((HR1.out _).below (by assumption) (Nat.le_refl _))).mono ?_); rintro e w3 ⟨rfl, hb3⟩))
  all_goals
    clear hW hc2
    go_wp2
    go_ret
    exact ⟨congrArg Ending.returned HT.out, below_three hb2 hb3⟩
end Go.Proofs.YtbahkilfcfbolaaDoor
