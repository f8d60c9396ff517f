/-
  slices.Clone of one row. Every row, nil ones too. No condition.
-/
import Derived.Test.YtljochpomgjjeaaWm
import Derived.Test.YtljochpomgjjeaaSlp
namespace Go.Proofs.Ytljochpomgjjeaa
open Go.RowKit

def zeroW : Array Value := #[.int .i64 0, .int .u64 0]
theorem info_W : (Try.prog.info? 53).map (fun i => (i.zero, i.size, i.bytes)) = some (some (.agg zeroW), 2, 16) := by kernel_rfl
theorem zeroW_one : zeroW.all (·.oneCell') = true := by simp [zeroW, Value.oneCell']
set_option maxHeartbeats 400000 in
theorem clW_any (A : Option Addr) (xs : List Value) (n c lo hi : Nat) (w : World) (h : Rd w lo hi A xs) (hhi : hi ≤ w.heap.size) (hl : xs.length = n * 2) (h1 : ∀ u ∈ xs, u.oneCell' = true) (hA : A = none → c = 0) (hm : n ≤ 100000) :
    Calls Try.prog 19 #[.slice A n c] w fun e w' => ∃ v, e = .returned v ∧ w'.ownsRow w.heap.size 53 2 v n xs ∧ Below w.heap.size w w' := by
  obtain ⟨i0, hi0, hz0, hz1, hz2⟩ := parts_of info_W
  have HR := Lib.hid h
  have HX := Lib.hid hl
  have HO := Lib.hid h1
  have HHI := Lib.hid hhi
  clear h hl h1 hhi
  have hnil := Lib.run_eql_slice_nil (P := Try.prog) w 25 53 A n c 0 0 Try.underlying25
  rcases A with _ | ad
  · have HL : Hid (xs = [] ∧ n = 0) := by
      have h1 : xs = [] := by
        rcases xs with _ | ⟨u, r⟩
        · rfl
        · obtain ⟨_, e, _⟩ := HR.out 0 u rfl
          cases e
      refine ⟨h1, ?_⟩
      have := HX.out
      rw [h1] at this
      simp at this
      omega
    clear hA
    go_enter Try.func19, Try.ntmps19
    go_wp2
    go_ret
    exact ⟨_, rfl, by rw [HL.out.1, HL.out.2]; exact World.ownsRow_nil _ _ _ _, Below.refl _ _⟩
  · clear hA
    have HOW : Hid ((w.alloc (.cells #[] 53)).ownsRow w.heap.size 53 2 (.slice (some ⟨w.heap.size, 0, none⟩) 0 0) 0 []) := World.ownsRow_lit (base := w.heap.size) (e := 53) (size := 2) w #[] 0 (Nat.le_refl _) (Nat.zero_le _) rfl
    have HRX := Lib.hid (HR.out.alloc HHI.out (.cells #[] 53))
    have hz3 : ((.agg zeroW) : Value).cells.size = 2 := rfl
    go_enter Try.func19, Try.ntmps19
    go_wp2_with (at_builtin; refine wpList_append_rdk (P := Try.prog) rfl _ _ 25 rfl w.heap.size 53 i0 _ 2 16 Try.underlying25 hi0 hz0 hz1 hz2 hz3 (by omega) _ 0 [] rfl HOW.out (some ad) n c xs rfl (fun h => by cases h) HX.out HRX.out HO.out (by unfold maxLen; omega) (by omega) (by simp) ?_)
    intro v2 w2 hown2 hgrow2 _
    have HB : Hid (Below w.heap.size w w2) := ((Below.refl w.heap.size w).alloc (Nat.le_refl _) _).grown hgrow2 (by simp) fun g hg => by simp [Value.ownBlock] at hg; omega
    have HO2 : Hid (w2.ownsRow w.heap.size 53 2 v2 n xs) := by show World.ownsRow _ _ _ _ _ _ _; simpa using hown2
    clear hown2 hgrow2
    go_wp2
    go_ret
    exact ⟨_, rfl, HO2.out, HB.out⟩
theorem clW_own (v : Value) (xs : List Value) (n base : Nat) (w : World) (h : w.ownsRow base 53 2 v n xs) (h1 : ∀ u ∈ xs, u.oneCell' = true) (hm : n ≤ 100000) :
    Calls Try.prog 19 #[v] w fun e w' => ∃ v, e = .returned v ∧ w'.ownsRow w.heap.size 53 2 v n xs ∧ Below w.heap.size w w' := by
  obtain ⟨A, c, rfl, _, _, hA⟩ := ownk_form h
  exact clW_any A xs n c base w.heap.size w (ownk_rd h) (Nat.le_refl _) h.1 h1 hA hm

end Go.Proofs.Ytljochpomgjjeaa
