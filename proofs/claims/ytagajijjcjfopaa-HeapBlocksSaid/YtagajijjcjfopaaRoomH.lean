/-
  heap.room: where a block has room first. Every right heap. No condition beyond that.
-/
import Derived.Test.YtagajijjcjfopaaSmallH
import Derived.BigQuiet
namespace Go.Proofs.Ytagajijjcjfopaa
open Go.RowKit

/-- blocks in order from f on, in whole units, within T -/
def Blk (T : Nat) : Nat → List Bk → Prop
  | _, [] => True
  | f, b :: r => f ≤ b.1 ∧ b.1 % 8 = 0 ∧ 8 ≤ b.2 ∧ b.2 % 8 = 0 ∧ b.1 + b.2 ≤ T ∧ Blk T (b.1 + b.2) r
/-- where n bytes have room first, ahead of which block -/
def roomL (T n : Nat) : Nat → Nat → List Bk → Option (Nat × Nat)
  | at_, i, [] => if n ≤ T - at_ then some (at_, i) else none
  | at_, i, b :: r => if n ≤ b.1 - at_ then some (at_, i) else roomL T n (b.1 + b.2) (i + 1) r

def RoomPost (w : World) (o : Option (Nat × Nat)) (e : Ending) (w' : World) : Prop :=
  (match o with | some (a, i) => e = .returned (.tuple #[.int .i64 (a : Int), .int .i64 (i : Int), .bool true]) | none => ∃ a i : Int, e = .returned (.tuple #[.int .i64 a, .int .i64 i, .bool false])) ∧ Below w.heap.size w w'

set_option maxRecDepth 100000 in
set_option maxHeartbeats 400000 in
theorem room_any (A1 A2 A3 : Option Addr) (nb nk nd c1 c2 c3 n : Nat) (L : List Bk) (lo hi : Nat) (w : World) (h : Rd w lo hi A2 (bks L)) (hhi : hi ≤ w.heap.size) (hk : L.length = nk) (hL : Blk nb 0 L) (hb : nb ≤ 4096) (hn1 : n ≤ nb) (hkm : nk ≤ 4096) :
    Calls Try.prog 36 #[.agg #[.slice A1 nb c1, .slice A2 nk c2, .slice A3 nd c3], .int .i64 (n : Int)] w (RoomPost w (roomL nb (wholeN n) 0 0 L)) := by
  have HR := Lib.hid h
  have HHI := Lib.hid hhi
  have HN := Lib.hid hk
  have HL := Lib.hid hL
  obtain ⟨r, hr⟩ : ∃ r, wholeN n = r := ⟨_, rfl⟩
  have hw : ∀ w, Calls Try.prog 38 #[.int .i64 (n : Int)] w fun e w' => e = .returned (.int .i64 (r : Int)) ∧ w' = w := fun w => by
    rw [← hr]
    exact whole_any n w (by omega)
  have hr2 : r ≤ 5000 := by unfold wholeN at hr; omega
  rw [hr]
  have HW := Lib.hid hw
  clear h hhi hk hL hr hw
  go_enter Try.func36, Try.ntmps36
  go_wp2
  rw [decide_eq_false (show ¬ nb < n from by omega)]
  go_loopw [17, 4] (fun t17 t4 wr => ∃ (k f : Nat), k ≤ nk ∧ t17 = .int .i64 (k : Int) ∧ t4 = .int .i64 (f : Int) ∧ f ≤ nb ∧ Hid (Blk nb f (L.drop k)) ∧ Hid (roomL nb r 0 0 L = roomL nb r f k (L.drop k)) ∧ Hid (Below w.heap.size w wr) ∧ Hid (wr.heap[w.heap.size]? = some (.cells #[.slice A1 nb c1, .slice A2 nk c2, .slice A3 nd c3] 29 (0, 0)))) (fun t17 _ _ => nk - (intOf t17).toNat)
  case atStart => exact ⟨0, 0, Nat.zero_le _, rfl, rfl, Nat.zero_le _, Lib.hid (by rw [List.drop_zero]; exact HL.out), Lib.hid (by rw [List.drop_zero]), Lib.hid ((Below.refl _ _).alloc (Nat.le_refl _) _), Lib.hid (heap_alloc_new w _)⟩
  case round =>
    obtain ⟨k, f, hk1, rfl, rfl, hf1, HBL, HV, HBEL, HBX⟩ := hrel
    by_cases hlt : k < nk
    · obtain ⟨⟨a, m⟩, hz⟩ : ∃ z, L[k]? = some z := ⟨_, List.getElem?_eq_getElem (by rw [HN.out]; exact hlt)⟩
      obtain ⟨ad, rfl⟩ : ∃ ad, A2 = some ad := by
        obtain ⟨ad, e, _⟩ := HR.out 0 _ (List.getElem?_eq_getElem (by rw [bks_length, HN.out]; omega))
        exact ⟨ad, e⟩
      have HEL : Hid (∀ j v, [Value.int .i64 (a : Int), Value.int .i64 (m : Int)][j]? = some v → wr.cell? ((ad.add (k * 2)).add j) = some v) := by
        have := (HR.out.below HBEL.out HHI.out).elem (k := 2) k
        rw [bks_at L k _ hz] at this
        exact this
      have hdr : L.drop k = (a, m) :: L.drop (k + 1) := by
        rw [← List.getElem_cons_drop (by rw [HN.out]; exact hlt), (List.getElem?_eq_some_iff.1 hz).2]
      have hbl := HBL.out
      rw [hdr] at hbl
      obtain ⟨g1, g2, g3, g4, g5, g6⟩ := hbl
      simp only at g1 g2 g3 g4 g5 g6
      have HD : Hid (roomL nb r 0 0 L = if r ≤ a - f then some (f, k) else roomL nb r (a + m) (k + 1) (L.drop (k + 1))) := by
        show _ = _
        rw [HV.out, hdr]
        rfl
      have HG6 := Lib.hid g6
      clear hz hdr g6 g2 g4
      go_upto_region 6 with (first | refine wpList_load_at rfl 62 _ rfl (ad.add (k * 2)) rfl [.int .i64 (a : Int), .int .i64 (m : Int)] _ HEL.out Try.underlying62 rfl (by kernel_rfl) ?_)
      have HX := Lib.hid (old_alloc HBX.out (.cells #[.int .i64 (a : Int), .int .i64 (m : Int)] 62))
      have HY := Lib.hid (heap_alloc_new wr (.cells #[.int .i64 (a : Int), .int .i64 (m : Int)] 62))
      have HB2 := Lib.hid (HBEL.out.alloc HBEL.out.size (.cells #[.int .i64 (a : Int), .int .i64 (m : Int)] 62))
      generalize wr.alloc (.cells #[.int .i64 (a : Int), .int .i64 (m : Int)] 62) = w5 at HX HY HB2 ⊢
      generalize wr.heap.size = b5 at HY ⊢
      obtain ⟨d0, d1⟩ := two_cells HY.out
      by_cases q : r ≤ a - f
      · have hq : (r : Int) ≤ (a : Int) - (f : Int) := by omega
        have HE : Hid (roomL nb r 0 0 L = some (f, k)) := by show _ = _; rw [HD.out, if_pos q]
        have hwr : IntKind.i64.wrap ((a : Int) - (f : Int)) = (a : Int) - (f : Int) := IntWalk.i64_in _ ⟨by omega, by omega⟩
        have HQ : Hid (Below w.heap.size w w5 ∧ w5.heap[w.heap.size]? = some (.cells #[.slice A1 nb c1, .slice (some ad) nk c2, .slice A3 nd c3] 29 (0, 0))) := ⟨HB2.out, HX.out⟩
        clear HX HY HB2
        go_quiet ((go_at_call 38; exact Calls.quiet_of_same (HW.out _)))
        clear d0 d1 hwr
        rename_i nq
        have HB3 : Hid (Below w.heap.size w (w5.drewN nq)) := below_drewN' HQ.out.1 nq
        generalize w5.drewN nq = w7 at HB3 ⊢
        go_wp2
        refine ret_tmp3 rfl rfl ?_
        refine ⟨?_, HB3.out⟩
        rw [HE.out]
        rfl
      · have hq : (a : Int) - (f : Int) < (r : Int) := by omega
        have HE : Hid (roomL nb r 0 0 L = roomL nb r (a + m) (k + 1) (L.drop (k + 1))) := by show _ = _; rw [HD.out, if_neg q]
        have hwr : IntKind.i64.wrap ((a : Int) - (f : Int)) = (a : Int) - (f : Int) := IntWalk.i64_in _ ⟨by omega, by omega⟩
        have HQ : Hid (Below w.heap.size w w5 ∧ w5.heap[w.heap.size]? = some (.cells #[.slice A1 nb c1, .slice (some ad) nk c2, .slice A3 nd c3] 29 (0, 0)) ∧ w5.heap[b5]? = some (.cells #[.int .i64 (a : Int), .int .i64 (m : Int)] 62 (0, 0))) := ⟨HB2.out, HX.out, HY.out⟩
        clear HX HY HB2
        go_quiet ((go_at_call 38; exact Calls.quiet_of_same (HW.out _)))
        clear d0 d1 hwr
        rename_i nq
        have HB3 : Hid (Below w.heap.size w (w5.drewN nq)) := below_drewN' HQ.out.1 nq
        have HX3 : Hid ((w5.drewN nq).heap[w.heap.size]? = some (.cells #[.slice A1 nb c1, .slice (some ad) nk c2, .slice A3 nd c3] 29 (0, 0))) := HQ.out.2.1
        have HY3 : Hid ((w5.drewN nq).heap[b5]? = some (.cells #[.int .i64 (a : Int), .int .i64 (m : Int)] 62 (0, 0))) := HQ.out.2.2
        generalize w5.drewN nq = w7 at HB3 HX3 HY3 ⊢
        clear HQ
        obtain ⟨d0, d1⟩ := two_cells HY3.out
        go_wp2_with fail
        refine (end_any a m w7 (by omega) (by omega) (by omega)).mono ?_
        rintro e w8 ⟨rfl, hb8⟩
        have HB8 := Lib.hid (HB3.out.trans (hb8.mono HB3.out.size))
        have HX8 := Lib.hid (old_below HX3.out hb8 (row_lt HX3.out))
        clear hb8 d0 d1
        go_wp2
        go_roundw
        case rel => exact ⟨k + 1, a + m, by omega, by go_num, by go_num, g5, HG6, HE, HB8, HX8⟩
        case measure => simp [intOf]; omega
    · obtain rfl : k = nk := by omega
      have HD : Hid (roomL nb r 0 0 L = if r ≤ nb - f then some (f, k) else none) := by
        show _ = _
        rw [HV.out, List.drop_of_length_le (by rw [HN.out]; exact Nat.le_refl _)]
        rfl
      have hwr : IntKind.i64.wrap ((nb : Int) - (f : Int)) = (nb : Int) - (f : Int) := IntWalk.i64_in _ ⟨by omega, by omega⟩
      obtain ⟨x0, x1, x2⟩ := three_cells HBX.out
      by_cases q : r ≤ nb - f
      · have hq : (r : Int) ≤ (nb : Int) - (f : Int) := by omega
        go_wp2
        go_quiet ((go_at_call 38; exact Calls.quiet_of_same (HW.out _)))
        clear hwr x0 x1 x2
        rename_i nq
        have HB3 : Hid (Below w.heap.size w (wr.drewN nq)) := below_drewN' HBEL.out nq
        generalize wr.drewN nq = w7 at HB3 ⊢
        go_wp2
        refine ret_tmp3 rfl rfl ?_
        refine ⟨?_, HB3.out⟩
        rw [HD.out, if_pos q]
        simp
      · have hq : (nb : Int) - (f : Int) < (r : Int) := by omega
        go_wp2
        go_quiet ((go_at_call 38; exact Calls.quiet_of_same (HW.out _)))
        clear hwr x0 x1 x2
        rename_i nq
        have HB3 : Hid (Below w.heap.size w (wr.drewN nq)) := below_drewN' HBEL.out nq
        generalize wr.drewN nq = w7 at HB3 ⊢
        go_wp2
        refine ret_tmp3 rfl rfl ?_
        refine ⟨?_, HB3.out⟩
        rw [HD.out, if_neg q]
        refine ⟨(f : Int), (k : Int), ?_⟩
        simp [hq]
end Go.Proofs.Ytagajijjcjfopaa
