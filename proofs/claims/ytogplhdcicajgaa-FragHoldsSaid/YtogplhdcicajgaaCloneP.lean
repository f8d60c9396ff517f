/-
  slices.Clone of parts: a row of the call's own with the same parts, the bytes where they were. Every slice that reads as parts. No condition.
-/
import Derived.Test.YtogplhdcicajgaaHkSmall
namespace Go.Proofs.Ytogplhdcicajgaa
open Go.RowKit

set_option maxHeartbeats 400000 in
theorem clonep_any (A : Option Addr) (xs : List Value) (n c : Nat) (ps : List Pt) (w : World) (h : Tr w 0 60 A xs) (hr : RowOf 2 (PtT w) xs ps) (hn : ps.length = n) (hA : A = none → c = 0) (hm : n ≤ 100000) :
    Calls Try.prog 29 #[.slice A n c] w fun e w' => ∃ v, e = .returned v ∧ w'.ownsRow w.heap.size 60 2 v n xs ∧ Below w.heap.size w w' := by
  obtain ⟨i0, hi0, hz0, hz1, hz2⟩ := info_parts info_pt
  have HR := Lib.hid h
  have HX := Lib.hid hr
  have HN := Lib.hid hn
  clear h hr hn
  have hnil := Lib.run_eql_slice_nil (P := Try.prog) w 47 60 A n c 0 0 Try.underlying47
  rcases A with _ | ad
  · have HL : Hid (xs = [] ∧ n = 0) := by
      have h1 : xs = [] := by
        rcases xs with _ | ⟨u, r⟩
        · rfl
        · obtain ⟨_, _, _, e, _⟩ := HR.out 0 u rfl
          cases e
      refine ⟨h1, ?_⟩
      have := HX.out.1
      rw [h1, HN.out] at this
      simp at this
      omega
    clear hA
    go_enter Try.func29, Try.ntmps29
    go_wp2
    go_ret
    exact ⟨_, rfl, by rw [HL.out.1, HL.out.2]; exact World.ownsRow_nil _ _ _ _, Below.refl _ _⟩
  · clear hA
    have HOW : Hid ((w.alloc (.cells #[] 60)).ownsRow w.heap.size 60 2 (.slice (some ⟨w.heap.size, 0, none⟩) 0 0) 0 []) := World.ownsRow_lit (base := w.heap.size) (e := 60) (size := 2) w #[] 0 (Nat.le_refl _) (Nat.zero_le _) rfl
    have HLX : Hid (xs.length = n * 2) := by show _ = _; rw [HX.out.1, HN.out]
    have H1X : Hid (∀ u ∈ xs, u.oneCell' = true) := HX.out.one_cell (fun _ _ h => h.one) (by decide)
    have HRX := Lib.hid (HR.out.alloc (.cells #[] 60)).rd
    have hz3 : (Value.agg #[.int .i64 0, .slice none 0 0]).cells.size = 2 := rfl
    go_enter Try.func29, Try.ntmps29
    go_wp2_with (at_builtin; refine wpList_append_rdk (P := Try.prog) rfl _ _ 47 rfl w.heap.size 60 i0 _ 2 32 Try.underlying47 hi0 hz0 hz1 hz2 hz3 (by omega) _ 0 [] rfl HOW.out (some ad) n c xs rfl (fun h => by cases h) HLX.out HRX.out H1X.out (by unfold maxLen; omega) (by omega) (by simp) ?_)
    intro v2 w2 hown2 hgrow2 _
    have HB : Hid (Below w.heap.size w w2) := ((Below.refl w.heap.size w).alloc (Nat.le_refl _) _).grown hgrow2 (by simp) fun g hg => by simp [Value.ownBlock] at hg; omega
    have HO : Hid (w2.ownsRow w.heap.size 60 2 v2 n xs) := hown2
    clear hown2 hgrow2
    go_wp2
    go_ret
    exact ⟨_, rfl, HO.out, HB.out⟩
end Go.Proofs.Ytogplhdcicajgaa
