/-
  The document's Room and Flight of layer 18. Every state that may be.
-/
import Derived.Test.YtebflcpoecolbaaSx
namespace Go.Proofs.Ytebflcpoecolbaa
open Go.RowKit

theorem sx_cells {w : World} {b : Nat} {x : Sx} {t : TypeId} {fr : Nat × Nat} (h : w.heap[b]? = some (.cells (sxC x) t fr)) :
    w.cell? ⟨b, 0, none⟩ = some (.int .u32 x.first) ∧ w.cell? ⟨b, 1, none⟩ = some (.string ⟨x.all.toArray⟩) ∧ w.cell? ⟨b, 2, none⟩ = some (.int .i64 (x.acked : Int)) ∧ w.cell? ⟨b, 3, none⟩ = some (.int .i64 (x.sent : Int)) ∧ w.cell? ⟨b, 4, none⟩ = some (.bool x.fin) ∧ w.cell? ⟨b, 5, none⟩ = some (.bool x.fsent) := by
  refine ⟨?_, ?_, ?_, ?_, ?_, ?_⟩ <;> (rw [cell_of_row _ _ _ _ _ _ h]; rfl)
set_option maxRecDepth 100000 in
set_option maxHeartbeats 2000000 in
theorem refroom_any (x : Sx) (w : World) (hx : OkS x) (hl : x.all.length ≤ 1000000) (hak : x.acked ≤ 1000001) : Calls Try.prog 15 #[.agg (sxC x)] w fun e w' => e = .returned (.int .i64 (roomS x : Int)) ∧ Below w.heap.size w w' := by
  have h256 := hx.room
  obtain ⟨w1, hw1⟩ : ∃ w1, w.alloc (.cells (sxC x) 31) = w1 := ⟨_, rfl⟩
  have HB : Hid (Below w.heap.size w w1) := by rw [← hw1]; exact (Below.refl _ _).alloc (Nat.le_refl _) _
  have HX : Hid (w1.heap[w.heap.size]? = some (.cells (sxC x) 31 (0, 0))) := by rw [← hw1]; exact heap_alloc_new w _
  have HW := Lib.hid hw1
  clear hw1
  obtain ⟨R, hR⟩ : ∃ R, roomS x = R := ⟨_, rfl⟩
  rw [hR]
  go_enter Try.func15, Try.ntmps15
  go_upto_region 1 with (fail)
  change Code.wp _ _ _ _ (w.alloc (.cells (sxC x) 31))
  rw [HW.out]
  clear HW
  obtain ⟨c0, c1, c2, c3, c4, c5⟩ := sx_cells HX.out
  unfold roomS fromS at hR
  unfold fromS at h256
  obtain ⟨m, hm⟩ : ∃ m, x.all.length = m := ⟨_, rfl⟩
  have hts : (⟨x.all.toArray⟩ : ByteArray).size = m := (txt_size _).trans hm
  rw [hm] at hR h256 hl
  obtain ⟨a, ha⟩ : ∃ a, x.acked = a := ⟨_, rfl⟩
  rw [ha] at hR h256 hak c2
  obtain ⟨fe, hfe⟩ : ∃ fe, x.fin = fe := ⟨_, rfl⟩
  rw [hfe] at hR c4
  clear hx ha hfe hm
  cases fe
  · rw [if_neg (by decide)] at hR
    rcases Nat.lt_trichotomy a m with h | h | h
    · have hRI : (R : Int) = 256 - ((m : Int) - (a : Int)) := by omega
      have hb : (a : Int) < (m : Int) := by omega
      have HRI := Lib.hid hRI
      clear hR hRI
      go_wp2
      go_ret
      exact ⟨by rw [HRI.out]; rfl, HB.out⟩
    · subst h
      have hRI : (R : Int) = 256 := by omega
      have HRI := Lib.hid hRI
      clear hR hRI
      go_wp2
      go_ret
      exact ⟨by rw [HRI.out]; first | rfl | simp, HB.out⟩
    · have hRI : (R : Int) = 256 := by omega
      have hb : (m : Int) < (a : Int) := by omega
      have HRI := Lib.hid hRI
      clear hR hRI
      go_wp2
      go_ret
      exact ⟨by rw [HRI.out]; first | rfl | simp, HB.out⟩
  · rw [if_pos rfl] at hR
    subst hR
    go_wp2
    go_ret
    exact ⟨rfl, HB.out⟩
set_option maxRecDepth 100000 in
set_option maxHeartbeats 2000000 in
theorem refflight_any (x : Sx) (w : World) (hx : OkS x) (hl : x.all.length ≤ 1000000) : Calls Try.prog 17 #[.agg (sxC x)] w fun e w' => e = .returned (.int .i64 (flightS x : Int)) ∧ Below w.heap.size w w' := by
  have hfl := flight_le hx
  have hsl := hx.sent
  obtain ⟨w1, hw1⟩ : ∃ w1, w.alloc (.cells (sxC x) 31) = w1 := ⟨_, rfl⟩
  have HB : Hid (Below w.heap.size w w1) := by rw [← hw1]; exact (Below.refl _ _).alloc (Nat.le_refl _) _
  have HX : Hid (w1.heap[w.heap.size]? = some (.cells (sxC x) 31 (0, 0))) := by rw [← hw1]; exact heap_alloc_new w _
  have HW := Lib.hid hw1
  clear hw1
  obtain ⟨R, hR⟩ : ∃ R, flightS x = R := ⟨_, rfl⟩
  rw [hR] at hfl ⊢
  go_enter Try.func17, Try.ntmps17
  go_upto_region 1 with (fail)
  change Code.wp _ _ _ _ (w.alloc (.cells (sxC x) 31))
  rw [HW.out]
  clear HW
  obtain ⟨c0, c1, c2, c3, c4, c5⟩ := sx_cells HX.out
  obtain ⟨a, ha⟩ : ∃ a, x.acked = a := ⟨_, rfl⟩
  obtain ⟨n, hn⟩ : ∃ n, x.sent = n := ⟨_, rfl⟩
  obtain ⟨fs, hfs⟩ : ∃ fs, x.fsent = fs := ⟨_, rfl⟩
  rw [ha] at hfl c2
  rw [hn] at hfl hsl c3
  rw [hfs] at hfl c5
  clear hx ha hn hfs hR
  cases fs
  · rw [if_neg (by decide)] at hfl
    have hRI : (R : Int) = (n : Int) - (a : Int) := by omega
    have HRI := Lib.hid hRI
    have hb : (a : Int) ≤ (n : Int) := by omega
    clear hRI hfl
    go_wp2
    go_ret
    exact ⟨by rw [HRI.out]; rfl, HB.out⟩
  · rw [if_pos rfl] at hfl
    have hRI : (R : Int) = (n : Int) + 1 - (a : Int) := by omega
    have HRI := Lib.hid hRI
    have hb : (a : Int) ≤ (n : Int) + 1 := by omega
    clear hRI hfl
    go_wp2
    go_ret
    exact ⟨by rw [HRI.out]; rfl, HB.out⟩
end Go.Proofs.Ytebflcpoecolbaa
