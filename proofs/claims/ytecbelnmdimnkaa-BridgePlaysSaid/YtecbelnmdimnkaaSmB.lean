/-
  addr.All, bridge.ports, bridge.several, bridge.New, the law's card; slices.Clone of what is learnt; the function values that delete. No condition.
-/
import Derived.Test.YtecbelnmdimnkaaBr
namespace Go.Proofs.Ytecbelnmdimnkaa
open Go.RowKit

def allM : Mac := ⟨255, 255, 255, 255, 255, 255⟩
def Z6 : Array Value := #[.int .u8 0, .int .u8 0, .int .u8 0, .int .u8 0, .int .u8 0, .int .u8 0]
def Z7 : Array Value := #[.int .u8 0, .int .u8 0, .int .u8 0, .int .u8 0, .int .u8 0, .int .u8 0, .int .i64 0]
theorem all_any (w : World) : Calls Try.prog 16 #[] w fun e w' => e = .returned (.agg (macA allM)) ∧ Below w.heap.size w w' := by
  go_enter Try.func16, Try.ntmps16
  go_wp2_with (refine wpList_store_new rfl 46 _ _ rfl w Z6 (macA allM) rfl rfl (by kernel_rfl) rfl (macA_one _) ?_)
  refine ret_one (g := w.heap.size) rfl rfl (heap_alloc_new w _) Try.underlying46 rfl (by kernel_rfl) rfl ?_
  exact ⟨rfl, (Below.refl _ _).alloc (Nat.le_refl _) _⟩
theorem ports_any (P : Nat) (s : Value) (w : World) (hP : P ≤ 8) : Calls Try.prog 18 #[.agg #[.int .i64 (P : Int), s]] w fun e w' => e = .returned (.int .i64 (P : Int)) ∧ Below w.heap.size w w' := by
  rcases Nat.lt_or_ge P 8 with h | h
  · go_enter Try.func18, Try.ntmps18
    go_wp2
    go_ret
    exact ⟨rfl, (Below.refl _ _).alloc (Nat.le_refl _) _⟩
  · obtain rfl : P = 8 := by omega
    go_enter Try.func18, Try.ntmps18
    go_wp2
    go_ret
    exact ⟨rfl, (Below.refl _ _).alloc (Nat.le_refl _) _⟩
theorem odd_bits : ∀ n : Fin 256, (bits BinOp.and IntKind.u8 ((n.val : Nat) : Int) 1 == 1) = decide (n.val % 2 = 1) := by decide +kernel
theorem several_any (a : Mac) (w : World) : Calls Try.prog 19 #[.agg (macA a)] w fun e w' => e = .returned (.bool (decide (a.x0.toNat % 2 = 1))) ∧ Below w.heap.size w w' := by
  obtain ⟨x0, x1, x2, x3, x4, x5⟩ := a
  simp only [macA]
  have hb := Lib.hid (odd_bits ⟨x0.toNat, x0.toNat_lt⟩)
  go_enter Try.func19, Try.ntmps19
  go_wp2
  go_ret
  exact ⟨congrArg (fun b => Ending.returned (Value.bool b)) hb.out, (Below.refl _ _).alloc (Nat.le_refl _) _⟩
def B2 : Array Value := #[.int .i64 0, .slice none 0 0]
theorem new_ok (P : Nat) (w : World) (h1 : 1 ≤ P) (h8 : P ≤ 8) : Calls Try.prog 8 #[.int .i64 (P : Int)] w fun e w' => e = .returned (.tuple #[.agg #[.int .i64 (P : Int), .slice none 0 0], .int .i64 0]) ∧ Below w.heap.size w w' := by
  have h1' : ¬ (P : Int) < 1 := by omega
  have h8' : ¬ (8 : Int) < (P : Int) := by omega
  go_enter Try.func8, Try.ntmps8
  go_wp2_with (refine wpList_store_new rfl 27 _ _ rfl w B2 #[.int .i64 (P : Int), .slice none 0 0] rfl rfl (by kernel_rfl) rfl (by simp [Value.oneCell']) ?_)
  refine ret_two (g := w.heap.size) rfl rfl (heap_alloc_new w _) Try.underlying27 rfl (by kernel_rfl) rfl ?_
  exact ⟨rfl, (Below.refl _ _).alloc (Nat.le_refl _) _⟩
theorem new_bad (z : Int) (w : World) (h : z < 1 ∨ 8 < z) : Calls Try.prog 8 #[.int .i64 z] w fun e w' => e = .returned (.tuple #[.agg #[.int .i64 0, .slice none 0 0], .int .i64 1]) ∧ Below w.heap.size w w' := by
  rcases Int.lt_or_le z 1 with h1 | h1
  · clear h
    go_enter Try.func8, Try.ntmps8
    go_wp2_with (refine wpList_store_new rfl 27 _ _ rfl w B2 #[.int .i64 0, .slice none 0 0] rfl rfl (by kernel_rfl) rfl (by simp [Value.oneCell']) ?_)
    refine ret_two (g := w.heap.size) rfl rfl (heap_alloc_new w _) Try.underlying27 rfl (by kernel_rfl) rfl ?_
    exact ⟨rfl, (Below.refl _ _).alloc (Nat.le_refl _) _⟩
  · have h8 : 8 < z := by omega
    have h1' : ¬ z < 1 := by omega
    clear h
    go_enter Try.func8, Try.ntmps8
    go_wp2_with (refine wpList_store_new rfl 27 _ _ rfl w B2 #[.int .i64 0, .slice none 0 0] rfl rfl (by kernel_rfl) rfl (by simp [Value.oneCell']) ?_)
    refine ret_two (g := w.heap.size) rfl rfl (heap_alloc_new w _) Try.underlying27 rfl (by kernel_rfl) rfl ?_
    exact ⟨rfl, (Below.refl _ _).alloc (Nat.le_refl _) _⟩
/-- the law's cards -/
def cardX (n : UInt8) : Mac := if n = 255 then allM else if n = 254 then ⟨1, 2, 0, 0, 0, 0⟩ else ⟨2, n, 0, 0, 0, 0⟩
theorem card_any (n : UInt8) (w : World) : Calls Try.prog 22 #[.int .u8 (n.toNat : Int)] w fun e w' => e = .returned (.agg (macA (cardX n))) ∧ Below w.heap.size w w' := by
  by_cases h5 : n = 255
  · subst h5
    have HX : Hid (cardX 255 = allM) := by show _ = _; simp [cardX]
    rw [HX.out]
    show Calls Try.prog 22 #[.int .u8 255] w _
    go_enter Try.func22, Try.ntmps22
    go_wp2_with fail
    refine (all_any _).mono ?_
    rintro e w2 ⟨rfl, hb⟩
    have HX2 : Hid (w2.heap[w.heap.size]? = some (.cells Z6 46 (0, 0))) := (hb.block _ (by simp)).trans (heap_alloc_new w _)
    have HB2 : Hid (Below w.heap.size w w2) := ((Below.refl w.heap.size w).alloc (Nat.le_refl _) _).trans (hb.mono (by simp))
    clear hb
    go_wp2_with (refine wpList_store_row rfl 46 _ _ rfl w.heap.size (macA allM) rfl rfl 46 Z6 HX2.out (by kernel_rfl) rfl (macA_one _) ?_)
    refine ret_one (g := w.heap.size) rfl rfl (setRow_heap _ _ _ _ _ _ HX2.out) Try.underlying46 rfl (by kernel_rfl) rfl ?_
    exact ⟨rfl, below_setRow HB2.out (Nat.le_refl _) _⟩
  · have h5' : ¬ (n.toNat : Int) = 255 := fun e => h5 (UInt8.toNat_inj.1 (by show n.toNat = 255; omega))
    by_cases h4 : n = 254
    · subst h4
      have HX : Hid (cardX 254 = ⟨1, 2, 0, 0, 0, 0⟩) := by show _ = _; simp [cardX]
      rw [HX.out]
      show Calls Try.prog 22 #[.int .u8 254] w _
      clear h5 h5'
      go_enter Try.func22, Try.ntmps22
      go_wp2_with (refine wpList_store_new rfl 46 _ _ rfl w Z6 (macA ⟨1, 2, 0, 0, 0, 0⟩) rfl rfl (by kernel_rfl) rfl (macA_one _) ?_)
      refine ret_one (g := w.heap.size) rfl rfl (heap_alloc_new w _) Try.underlying46 rfl (by kernel_rfl) rfl ?_
      exact ⟨rfl, (Below.refl _ _).alloc (Nat.le_refl _) _⟩
    · have h4' : ¬ (n.toNat : Int) = 254 := fun e => h4 (UInt8.toNat_inj.1 (by show n.toNat = 254; omega))
      have HX : Hid (cardX n = ⟨2, n, 0, 0, 0, 0⟩) := by show _ = _; simp [cardX, h5, h4]
      rw [HX.out]
      clear h5 h4
      go_enter Try.func22, Try.ntmps22
      go_wp2_with (refine wpList_store_new rfl 46 _ _ rfl w Z6 (macA ⟨2, n, 0, 0, 0, 0⟩) rfl rfl (by kernel_rfl) rfl (macA_one _) ?_)
      refine ret_one (g := w.heap.size) rfl rfl (heap_alloc_new w _) Try.underlying46 rfl (by kernel_rfl) rfl ?_
      exact ⟨rfl, (Below.refl _ _).alloc (Nat.le_refl _) _⟩
set_option maxHeartbeats 400000 in
theorem clonel_any (A : Option Addr) (xs : List Value) (n c lo hi : Nat) (w : World) (h : Rd w lo hi A xs) (hhi : hi ≤ w.heap.size) (hl : xs.length = n * 7) (h1 : ∀ u ∈ xs, u.oneCell' = true) (hA : A = none → c = 0) (hm : n ≤ 100000) :
    Calls Try.prog 17 #[.slice A n c] w fun e w' => ∃ v, e = .returned v ∧ w'.ownsRow w.heap.size 58 7 v n xs ∧ Below w.heap.size w w' := by
  obtain ⟨i0, hi0, hz0, hz1, hz2⟩ := info_parts info_ln
  have HR := Lib.hid h
  have HX := Lib.hid hl
  have HO := Lib.hid h1
  have HHI := Lib.hid hhi
  clear h hl h1 hhi
  have hnil := Lib.run_eql_slice_nil (P := Try.prog) w 25 58 A n c 0 0 Try.underlying25
  rcases A with _ | ad
  · have HL : Hid (xs = [] ∧ n = 0) := by
      have h1 : xs = [] := by
        rcases xs with _ | ⟨u, r⟩
        · rfl
        · obtain ⟨_, e, _⟩ := HR.out 0 u rfl
          cases e
      refine ⟨h1, ?_⟩
      have := HX.out
      rw [h1] at this
      simp at this
      omega
    clear hA
    go_enter Try.func17, Try.ntmps17
    go_wp2
    go_ret
    exact ⟨_, rfl, by rw [HL.out.1, HL.out.2]; exact World.ownsRow_nil _ _ _ _, Below.refl _ _⟩
  · clear hA
    have HOW : Hid ((w.alloc (.cells #[] 58)).ownsRow w.heap.size 58 7 (.slice (some ⟨w.heap.size, 0, none⟩) 0 0) 0 []) := World.ownsRow_lit (base := w.heap.size) (e := 58) (size := 7) w #[] 0 (Nat.le_refl _) (Nat.zero_le _) rfl
    have HRX := Lib.hid (HR.out.alloc HHI.out (.cells #[] 58))
    have hz3 : ((.agg #[.int .u8 0, .int .u8 0, .int .u8 0, .int .u8 0, .int .u8 0, .int .u8 0, .int .i64 0]) : Value).cells.size = 7 := rfl
    go_enter Try.func17, Try.ntmps17
    go_wp2_with (at_builtin; refine wpList_append_rdk (P := Try.prog) rfl _ _ 25 rfl w.heap.size 58 i0 _ 7 16 Try.underlying25 hi0 hz0 hz1 hz2 hz3 (by omega) _ 0 [] rfl HOW.out (some ad) n c xs rfl (fun h => by cases h) HX.out HRX.out HO.out (by unfold maxLen; omega) (by omega) (by simp) ?_)
    intro v2 w2 hown2 hgrow2 _
    have HB : Hid (Below w.heap.size w w2) := ((Below.refl w.heap.size w).alloc (Nat.le_refl _) _).grown hgrow2 (by simp) fun g hg => by simp [Value.ownBlock] at hg; omega
    have HO2 : Hid (w2.ownsRow w.heap.size 58 7 v2 n xs) := by show World.ownsRow _ _ _ _ _ _ _; simpa using hown2
    clear hown2 hgrow2
    go_wp2
    go_ret
    exact ⟨_, rfl, HO2.out, HB.out⟩
end Go.Proofs.Ytecbelnmdimnkaa
