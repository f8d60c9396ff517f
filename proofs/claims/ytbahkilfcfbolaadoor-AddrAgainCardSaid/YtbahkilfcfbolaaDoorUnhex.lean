/-
  octets.Unhex(s): ErrForm at the first rune that is no digit, ErrCut of an odd number of them, else new bytes, those that are written so. Every text of at most a milliard bytes.
-/
import Derived.Test.YtbahkilfcfbolaaDoorMem
import Derived.Test.YtbahkilfcfbolaaDoorPut
import Derived.Test.YtbahkilfcfbolaaDoorHex
import Derived.Lib.OthersKept
namespace Go.Proofs.YtbahkilfcfbolaaDoor
open Go.RowKit

def isDig (x : Nat) : Bool := decide (48 ≤ x ∧ x ≤ 57 ∨ 97 ≤ x ∧ x ≤ 102)
def dv (x : Nat) : Nat := if x ≤ 57 then x - 48 else x - 87
def hexPair (l : List UInt8) (j : Nat) : UInt8 := UInt8.ofNat (16 * dv (l.getD (2 * j) 0).toNat + dv (l.getD (2 * j + 1) 0).toNat)
def unhexK (l : List UInt8) (m : Nat) : List UInt8 := (List.range m).map (hexPair l)
/-- the bytes of a text, and the error -/
def unhexS (l : List UInt8) : List UInt8 × Int :=
  if l.all (fun c => isDig c.toNat) then if l.length % 2 = 1 then ([], 6) else (unhexK l (l.length / 2), 0) else ([], 7)

theorem unhexK_step (l : List UInt8) (m : Nat) : unhexK l (m + 1) = unhexK l m ++ [hexPair l m] := by
  unfold unhexK
  rw [List.range_succ, List.map_append]
  rfl
theorem unhexK_length (l : List UInt8) (m : Nat) : (unhexK l m).length = m := by simp [unhexK]
theorem unhexS_bad (l : List UInt8) (k : Nat) (h : k < l.length) (hd : isDig l[k].toNat = false) : unhexS l = ([], 7) := by
  unfold unhexS
  rw [if_neg]
  intro ha
  rw [List.all_eq_true] at ha
  have := ha l[k] (List.getElem_mem h)
  rw [hd] at this
  cases this
theorem all_of (l : List UInt8) (h : ∀ j (hj : j < l.length), isDig l[j].toNat = true) : (l.all fun c => isDig c.toNat) = true := by
  rw [List.all_eq_true]
  intro c hc
  obtain ⟨j, hj, rfl⟩ := List.getElem_of_mem hc
  exact h j hj
theorem dv_lt (x : Nat) (h : isDig x = true) : dv x < 16 := by
  unfold isDig at h
  unfold dv
  have := of_decide_eq_true h
  split <;> omega

theorem value_low (x : Nat) (w : World) (h1 : 48 ≤ x) (h2 : x ≤ 57) :
    Calls Tryd.prog 43 #[.int .i32 x] w fun e w' => e = .returned (.tuple #[.int .u8 (dv x), .bool true]) ∧ w = w' := by
  have hd : dv x = x - 48 := by unfold dv; rw [if_pos h2]
  have HD : Hid ((x : Int) - 48 = ((dv x : Nat) : Int)) := by show _ = _; rw [hd]; omega
  clear hd
  go_enter Tryd.func43, Tryd.ntmps43
  go_wp2
  go_ret2
  exact ⟨by rw [← HD.out]; rfl, rfl⟩
theorem value_high (x : Nat) (w : World) (h1 : 97 ≤ x) (h2 : x ≤ 102) :
    Calls Tryd.prog 43 #[.int .i32 x] w fun e w' => e = .returned (.tuple #[.int .u8 (dv x), .bool true]) ∧ w = w' := by
  have hd : dv x = x - 87 := by unfold dv; rw [if_neg (by omega)]
  have HD : Hid ((x : Int) - 97 + 10 = ((dv x : Nat) : Int)) := by show _ = _; rw [hd]; omega
  clear hd
  go_enter Tryd.func43, Tryd.ntmps43
  go_wp2
  go_ret2
  exact ⟨by rw [← HD.out]; rfl, rfl⟩
theorem value_not (x : Nat) (w : World) (h : isDig x = false) :
    Calls Tryd.prog 43 #[.int .i32 x] w fun e w' => e = .returned (.tuple #[.int .u8 0, .bool false]) ∧ w = w' := by
  unfold isDig at h
  have h := of_decide_eq_false h
  rcases (show x < 48 ∨ (57 < x ∧ x < 97) ∨ 102 < x by omega) with h1 | ⟨h1, h2⟩ | h1
  all_goals
    clear h
    go_enter Tryd.func43, Tryd.ntmps43
    go_wp2
    go_ret2
    exact ⟨rfl, rfl⟩
theorem value_dig (x : Nat) (w : World) (h : isDig x = true) :
    Calls Tryd.prog 43 #[.int .i32 x] w fun e w' => e = .returned (.tuple #[.int .u8 (dv x), .bool true]) ∧ w = w' := by
  unfold isDig at h
  rcases of_decide_eq_true h with ⟨h1, h2⟩ | ⟨h1, h2⟩
  · exact value_low x w h1 h2
  · exact value_high x w h1 h2

theorem nib_or (h d : Nat) (hh : h < 16) (hd : d < 16) : bits .or .u8 ((h : Int) * 16) (d : Int) = ((16 * h + d : Nat) : Int) := by
  have e := Nat.two_pow_add_eq_or_of_lt (i := 4) (b := d) (by omega) h
  rw [show (2 : Nat) ^ 4 = 16 from rfl] at e
  rw [show (h : Int) * 16 = ((16 * h : Nat) : Int) from by omega, u8_or_nat _ _ (by omega) (by omega), e]

/-- the state behind k digits: the text's iterator lies in block B -/
def UnSt (l : List UInt8) (w : World) (k hv : Nat) (v : Value) (wr : World) : Prop :=
  k ≤ l.length ∧ wr.heap[w.heap.size]? = some (.stringIter ⟨l.toArray⟩ k) ∧ wr.ownsRow (w.heap.size + 1) 5 1 v (k / 2) (cells (unhexK l (k / 2))) ∧ hv < 16 ∧
    (1 ≤ k → hv = dv (l.getD (k - 1) 0).toNat) ∧ (∀ j (hj : j < l.length), j < k → isDig l[j].toNat = true) ∧ Below w.heap.size w wr
theorem unst_start (l : List UInt8) (w : World) : UnSt l w 0 0 (.slice none 0 0) (w.alloc (.stringIter ⟨l.toArray⟩ 0)) :=
  ⟨Nat.zero_le _, heap_alloc_new w _, World.ownsRow_nil _ _ _ _, by omega, by omega, by omega, (Below.refl _ _).alloc (Nat.le_refl _) _⟩
theorem unst_even {l : List UInt8} {w wr : World} {k hv : Nat} {v : Value} (h : UnSt l w k hv v wr) (hk : k < l.length) (hd : isDig l[k].toNat = true) (he : k % 2 = 0) :
    UnSt l w (k + 1) (dv l[k].toNat) v (wr.iterAt w.heap.size ⟨l.toArray⟩ (k + 1)) := by
  obtain ⟨_, h2, h3, _, _, h6, h7⟩ := h
  refine ⟨by omega, Lib.iterAt_heap _ _ _ _ _ h2, ?_, dv_lt _ hd, ?_, ?_, Lib.below_iterAt h7 (Nat.le_refl _) _ _⟩
  · rw [show (k + 1) / 2 = k / 2 from by omega]
    exact ownsRow_iterAt h3 (by omega) _ _
  · intro _
    rw [Nat.add_sub_cancel, List.getD_eq_getElem?_getD, List.getElem?_eq_getElem hk]
    rfl
  · intro j hj hjk
    rcases Nat.lt_or_ge j k with h | h
    · exact h6 j hj h
    · obtain rfl : j = k := by omega
      exact hd
theorem unst_odd {l : List UInt8} {w wr w2 : World} {k hv : Nat} {v v2 : Value} {o : Obj} (h : UnSt l w k hv v wr) (hk : k < l.length) (hd : isDig l[k].toNat = true) (ho : k % 2 = 1)
    (hown : w2.ownsRow (w.heap.size + 1) 5 1 v2 (k / 2 + 1) (cells (unhexK l (k / 2)) ++ [.int .u8 ((16 * hv + dv l[k].toNat : Nat) : Int)]))
    (hg : ((wr.iterAt w.heap.size ⟨l.toArray⟩ (k + 1)).alloc o).grownBy w2 v.ownBlock) :
    UnSt l w (k + 1) (dv l[k].toNat) v2 w2 := by
  obtain ⟨_, h2, h3, h4, h5, h6, h7⟩ := h
  have hlt : w.heap.size < wr.heap.size := (Array.getElem?_eq_some_iff.1 h2).1
  have hrow : ∀ g, v.ownBlock = some g → w.heap.size + 1 ≤ g := fun g hg => (h3.lt g hg).1
  have hsz : (wr.iterAt w.heap.size ⟨l.toArray⟩ (k + 1)).heap.size = wr.heap.size := Lib.iterAt_size _ _ _ _
  refine ⟨by omega, ?_, ?_, dv_lt _ hd, ?_, ?_, ?_⟩
  · rw [hg.block w.heap.size (by rw [World.size_alloc, hsz]; omega) (fun e => by have := hrow _ e.symm; omega)]
    rw [Below.heap_alloc _ _ _ (by rw [hsz]; omega)]
    exact Lib.iterAt_heap _ _ _ _ _ h2
  · rw [show (k + 1) / 2 = k / 2 + 1 from by omega, unhexK_step, cells_append]
    have hp : cells [hexPair l (k / 2)] = [.int .u8 ((16 * hv + dv l[k].toNat : Nat) : Int)] := by
      have e1 : 2 * (k / 2) = k - 1 := by omega
      have e2 : 2 * (k / 2) + 1 = k := by omega
      have e3 : l.getD k 0 = l[k] := by rw [List.getD_eq_getElem?_getD, List.getElem?_eq_getElem hk]; rfl
      have hd16 := dv_lt _ hd
      unfold hexPair
      rw [e2, e1, ← h5 (by omega), e3]
      simp only [cells, List.map_cons, List.map_nil]
      rw [UInt8.toNat_ofNat', Nat.mod_eq_of_lt (by omega)]
    rw [hp]
    exact hown
  · intro _
    rw [Nat.add_sub_cancel, List.getD_eq_getElem?_getD, List.getElem?_eq_getElem hk]
    rfl
  · intro j hj hjk
    rcases Nat.lt_or_ge j k with h | h
    · exact h6 j hj h
    · obtain rfl : j = k := by omega
      exact hd
  · exact ((Lib.below_iterAt h7 (Nat.le_refl _) _ _).alloc (by rw [hsz]; omega) _).grown hg (by rw [World.size_alloc, hsz]; omega) fun g hg => by have := hrow g hg; omega

theorem iterPos_of {w : World} {b p : Nat} {s : ByteArray} (h : w.heap[b]? = some (.stringIter s p)) : w.iterPos b = p := by
  unfold World.iterPos
  rw [h]

theorem decide_high' (l : List UInt8) (k : Nat) (h : k < l.length) (hh : 128 ≤ l[k].toNat) : 128 ≤ (Utf8.decode ⟨l.toArray⟩ k).1 := (decode_high ⟨l.toArray⟩ k h hh).1

set_option maxHeartbeats 1000000 in
theorem unhex_any (l : List UInt8) (w : World) (hl : l.length ≤ 1000000000) :
    Calls Tryd.prog 31 #[.string ⟨l.toArray⟩] w (PutPost w (unhexS l)) := by
  obtain ⟨i0, hi0, hz0, hz1, hz2⟩ := info_parts info5
  go_enter Tryd.func31, Tryd.ntmps31
  go_wp2
  go_loopw [4, 5] (fun v h wr => ∃ k hv : Nat, h = .int .u8 hv ∧ UnSt l w k hv v wr) (fun _ _ wr => l.length - wr.iterPos w.heap.size)
  case atStart => exact ⟨0, 0, rfl, unst_start l w⟩
  case round =>
    obtain ⟨k, hv, rfl, hst⟩ := hrel
    have hk := hst.1
    have hit := hst.2.1
    have hmeas := iterPos_of hit
    by_cases hks : k < l.length
    · obtain ⟨x, hx⟩ : ∃ x, l[k].toNat = x := ⟨_, rfl⟩
      by_cases hdx : isDig x = true
      · have hasc : x < 128 := by
          have h := of_decide_eq_true hdx
          omega
        have hnx : ∀ ty, (Instr.next (.pointer (some ⟨w.heap.size, 0, none⟩)) true ty).run Tryd.prog wr = .ok (.tuple #[.bool true, .int .i64 k, .int .i32 x]) (wr.iterAt w.heap.size ⟨l.toArray⟩ (k + 1)) := by
          intro ty
          rw [← hx]
          exact Lib.run_next_ascii_at wr w.heap.size ⟨l.toArray⟩ k ty hit hks (by show l[k].toNat < 128; omega)
        have HX := Lib.hid hx
        have HM := Lib.hid hmeas
        have HIT := Lib.hid hit
        have HST := Lib.hid hst
        have HDX := Lib.hid hdx
        clear hx hmeas hit hst hdx
        rcases Nat.mod_two_eq_zero_or_one k with h2 | h2
        · have hmod : (((k : Int) % 2) == 1) = false := by
            rw [beq_eq_false_iff_ne]
            omega
          have HS2 := Lib.hid (unst_even HST.out hks (by rw [HX.out]; exact HDX.out) h2)
          have HP2 := Lib.hid (iterPos_of HS2.out.2.1)
          clear h2
          go_wp2_with (go_at_call 43; refine (value_dig _ _ HDX.out).mono ?_; rintro e w' ⟨rfl, rfl⟩)
          go_roundw
          case rel => exact ⟨k + 1, dv x, rfl, by rw [← HX.out]; exact HS2.out⟩
          case measure => rw [HP2.out, HM.out]; omega
        · have hmod : (((k : Int) % 2) == 1) = true := by
            rw [beq_iff_eq]
            omega
          have hdv := dv_lt x HDX.out
          have hv16 := HST.out.2.2.2.1
          have hor : bits .or .u8 ((hv : Int) * 16) ((dv x : Nat) : Int) = ((16 * hv + dv x : Nat) : Int) := nib_or hv (dv x) hv16 hdv
          obtain ⟨nb, hnb⟩ : ∃ nb, 16 * hv + dv x = nb := ⟨_, rfl⟩
          rw [hnb] at hor
          have HNB := Lib.hid hnb
          have hownI : (wr.iterAt w.heap.size ⟨l.toArray⟩ (k + 1)).ownsRow (w.heap.size + 1) 5 1 u4 (k / 2) (cells (unhexK l (k / 2))) := ownsRow_iterAt HST.out.2.2.1 (by omega) _ _
          have hsz : w.heap.size + 1 ≤ (wr.iterAt w.heap.size ⟨l.toArray⟩ (k + 1)).heap.size := by
            have := (Array.getElem?_eq_some_iff.1 HIT.out).1
            rw [Lib.iterAt_size]
            omega
          have HO := Lib.hid h2
          have hk2 : k / 2 ≤ k := Nat.div_le_self _ _
          clear hnb h2 hdv
          go_wp2_with (first | (go_at_call 43; refine (value_dig _ _ HDX.out).mono ?_; rintro e w' ⟨rfl, rfl⟩) | (at_builtin; refine wpList_append_own _ rfl _ _ 68 rfl (w.heap.size + 1) 5 i0 (.int .u8 0) 1 1 Tryd.underlying68 hi0 hz0 hz1 hz2 rfl (by decide) _ _ _ rfl (hownI.alloc _) ⟨(wr.iterAt w.heap.size ⟨l.toArray⟩ (k + 1)).heap.size, 0, none⟩ 1 1 [.int .u8 (nb : Int)] rfl rfl (cell_one_new _ _ _) (by intro u hu; simp at hu; subst hu; rfl) (by unfold maxLen; omega) (by omega) (by simp; omega) ?_; intro v2 w2 hown2 hgrow2 hnn))
          have HS2 := Lib.hid (unst_odd (v2 := v2) (w2 := w2) HST.out hks (by rw [HX.out]; exact HDX.out) HO.out (by rw [HX.out, HNB.out]; exact hown2) hgrow2)
          have HP2 := Lib.hid (iterPos_of HS2.out.2.1)
          clear hown2 hgrow2 hnn hownI
          go_roundw
          case rel => exact ⟨k + 1, dv x, rfl, by rw [← HX.out]; exact HS2.out⟩
          case measure => rw [HP2.out, HM.out]; omega
      · have hdf : isDig x = false := by simpa using hdx
        have HP := Lib.hid (unhexS_bad l k hks (by rw [hx]; exact hdf))
        obtain ⟨r, p', hnx, hr⟩ : ∃ (r p' : Nat), (∀ ty, (Instr.next (.pointer (some ⟨w.heap.size, 0, none⟩)) true ty).run Tryd.prog wr = .ok (.tuple #[.bool true, .int .i64 k, .int .i32 r]) (wr.iterAt w.heap.size ⟨l.toArray⟩ p')) ∧ isDig r = false := by
          by_cases hasc : x < 128
          · refine ⟨x, k + 1, fun ty => ?_, hdf⟩
            rw [← hx]
            exact Lib.run_next_ascii_at wr w.heap.size ⟨l.toArray⟩ k ty hit hks (by show l[k].toNat < 128; omega)
          · refine ⟨_, _, fun ty => Lib.run_next_any_at wr w.heap.size ⟨l.toArray⟩ k ty hit hks, ?_⟩
            have h128 := (decide_high' l k hks (by rw [hx]; omega))
            unfold isDig
            exact decide_eq_false (by omega)
        have HB := Lib.hid (Lib.below_iterAt hst.2.2.2.2.2.2 (Nat.le_refl _) ⟨l.toArray⟩ p')
        have HR := Lib.hid hr
        clear hx hdx hdf hr hst hmeas hit
        go_wp2_with (go_at_call 43; refine (value_not _ _ HR.out).mono ?_; rintro e w' ⟨rfl, rfl⟩)
        go_ret2
        rw [HP.out]
        exact ⟨none, 0, rfl, Rd.nil, HB.out⟩
    · obtain rfl : k = l.length := by omega
      have hnx : ∀ ty, (Instr.next (.pointer (some ⟨w.heap.size, 0, none⟩)) true ty).run Tryd.prog wr = .ok (.tuple #[.bool false]) wr :=
        fun ty => Lib.run_next_end_at wr w.heap.size ⟨l.toArray⟩ l.length ty hit (by show ¬ l.length < l.length; omega)
      have hall := all_of l fun j hj => hst.2.2.2.2.2.1 j hj hj
      have HST := Lib.hid hst
      clear hit hmeas
      rcases Nat.mod_two_eq_zero_or_one l.length with h2 | h2
      · have hmod : (((l.length : Int) % 2) == 1) = false := by
          rw [beq_eq_false_iff_ne]
          omega
        have HP : Hid (unhexS l = (unhexK l (l.length / 2), 0)) := by
          show _ = _
          unfold unhexS
          rw [if_pos hall, if_neg (by omega)]
        clear h2 hall hst
        go_wp2
        go_ret2
        rw [HP.out]
        obtain ⟨A, c, hv2⟩ := own_form HST.out.2.2.1
        have ho := HST.out.2.2.1
        rw [hv2] at ho
        refine ⟨A, c, ?_, (Rd.own ho).wide (Nat.le_succ _) (Nat.le_refl _), HST.out.2.2.2.2.2.2⟩
        rw [unhexK_length, ← hv2]
        rfl
      · have hmod : (((l.length : Int) % 2) == 1) = true := by
          rw [beq_iff_eq]
          omega
        have HP : Hid (unhexS l = ([], 6)) := by
          show _ = _
          unfold unhexS
          rw [if_pos hall, if_pos h2]
        clear h2 hall hst
        go_wp2
        go_ret2
        rw [HP.out]
        exact ⟨none, 0, rfl, Rd.nil, HST.out.2.2.2.2.2.2⟩
end Go.Proofs.YtbahkilfcfbolaaDoor
