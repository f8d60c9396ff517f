/-
  Ip4Pseudo returns true for every two hosts, every byte and every int, and turns nothing that was there.
-/
import Derived.Test.YtbmjjhflaocgiaaPseudo
import Derived.Test.YtbmjjhflaocgiaaTurned
import Derived.Deep.RegionHeld
namespace Go.Proofs.Ytbmjjhflaocgiaa
open Go.RowKit

theorem rep_twice {w : World} {a : Sh} {cs : List Value} (h : (Sh.rep 2 a).ok w cs) : ∃ x y : List Value, cs = x ++ y ∧ a.ok w x ∧ a.ok w y := by
  obtain ⟨h1, h2⟩ := h
  have h3 := h2 0 (by omega)
  have h4 := h2 1 (by omega)
  rw [Nat.zero_mul, List.drop_zero] at h3
  rw [Nat.one_mul] at h4
  rw [List.take_of_length_le (by rw [List.length_drop]; omega)] at h4
  exact ⟨_, _, (List.take_append_drop a.size cs).symm, h3, h4⟩

set_option maxRecDepth 100000 in
set_option maxHeartbeats 4000000 in
theorem pseudolaw_walk (s0 s1 s2 s3 d0 d1 d2 d3 y : UInt8) (a2 : Int) (w : World) :
    Calls Try.prog 6 #[.agg #[.int .u8 (s0.toNat : Int), .int .u8 (s1.toNat : Int), .int .u8 (s2.toNat : Int), .int .u8 (s3.toNat : Int), .int .u8 (d0.toNat : Int), .int .u8 (d1.toNat : Int), .int .u8 (d2.toNat : Int), .int .u8 (d3.toNat : Int)], .int .u8 (y.toNat : Int), .int .i64 a2] w fun e w' => e = .returned (.bool true) ∧ Below w.heap.size w w' := by
  obtain ⟨hu1, hu2⟩ := u64_range a2
  obtain ⟨k, hk1, hk2⟩ := rem_small (IntKind.u64.wrap a2) 1048576 (by omega)
  have hk : k < 1048576 := by omega
  have t1 : (IntKind.u64.wrap a2).tmod 1048576 = (k : Int) := by rw [Int.tmod_eq_emod_of_nonneg hu1]; exact hk1
  have t2 : (IntKind.u64.wrap a2) % 1048576 = (k : Int) := hk1
  have t3 : IntKind.u64.wrap (k : Int) = (k : Int) := IntWalk.u64_in _ ⟨by omega, by omega⟩
  have t4 : IntKind.i64.wrap (k : Int) = (k : Int) := IntWalk.i64_in _ ⟨by omega, by omega⟩
  have HT := Lib.hid (And.intro t1 (And.intro t2 (And.intro t3 t4)))
  have HKL := Lib.hid hk
  have HU := Lib.hid (And.intro hu1 hu2)
  obtain ⟨w0, hw0⟩ : ∃ w0, w0 = w.alloc (.cells #[.int .u8 (s0.toNat : Int), .int .u8 (s1.toNat : Int), .int .u8 (s2.toNat : Int), .int .u8 (s3.toNat : Int), .int .u8 (d0.toNat : Int), .int .u8 (d1.toNat : Int), .int .u8 (d2.toNat : Int), .int .u8 (d3.toNat : Int)] 43) := ⟨_, rfl⟩
  have HW := Lib.hid hw0
  have HB0 : Hid (Below w.heap.size w w0) := by show Below _ _ _; rw [hw0]; exact (Below.refl _ _).alloc (Nat.le_refl _) _
  have hg0 : w0.heap[w.heap.size]? = some (.cells #[.int .u8 (s0.toNat : Int), .int .u8 (s1.toNat : Int), .int .u8 (s2.toNat : Int), .int .u8 (s3.toNat : Int), .int .u8 (d0.toNat : Int), .int .u8 (d1.toNat : Int), .int .u8 (d2.toNat : Int), .int .u8 (d3.toNat : Int)] 43 (0, 0)) := by rw [hw0]; exact heap_alloc_new w _
  have hsz := row_lt hg0
  have key : ∀ (j : Nat) u, (#[.int .u8 (s0.toNat : Int), .int .u8 (s1.toNat : Int), .int .u8 (s2.toNat : Int), .int .u8 (s3.toNat : Int), .int .u8 (d0.toNat : Int), .int .u8 (d1.toNat : Int), .int .u8 (d2.toNat : Int), .int .u8 (d3.toNat : Int)] : Array Value)[j]? = some u → ∀ w', Below w0.heap.size w0 w' → w'.cell? ⟨w.heap.size, j, none⟩ = some u := fun j u hu w' hb => by
    rw [hb.cell (p := ⟨w.heap.size, j, none⟩) hsz, cell_of_row _ _ _ _ _ _ hg0]
    exact hu
  have k0 := key 0 _ rfl
  have k1 := key 1 _ rfl
  have k2 := key 2 _ rfl
  have k3 := key 3 _ rfl
  have k4 := key 4 _ rfl
  have k5 := key 5 _ rfl
  have k6 := key 6 _ rfl
  have k7 := key 7 _ rfl
  have HSZ := Lib.hid hsz
  clear t1 t2 t3 t4 hk hu1 hu2 hk1 hk2 hw0 hg0 key hsz
  go_enter Try.func6, Try.ntmps6
  go_wp2_with fail
  rw [← HW.out]
  have hS : Below w0.heap.size w0 w0 := Below.refl _ _
  go_region_held (fun w' => Below w0.heap.size w0 w')
    (first | assumption | exact (((Below.refl _ _).alloc (Nat.le_refl _) _).alloc (by simp) _).drew | exact ((Below.refl _ _).alloc (Nat.le_refl _) _).drew | exact Below.drew (by assumption))
    (fail)
  · have h7 : (((w0.alloc (.cells #[.int .u8 (s0.toNat : Int), .int .u8 (s1.toNat : Int), .int .u8 (s2.toNat : Int), .int .u8 (s3.toNat : Int)] 24)).alloc (.cells #[.int .u8 (d0.toNat : Int), .int .u8 (d1.toNat : Int), .int .u8 (d2.toNat : Int), .int .u8 (d3.toNat : Int)] 24)).drew).heap[w0.heap.size]? = some (.cells #[.int .u8 (s0.toNat : Int), .int .u8 (s1.toNat : Int), .int .u8 (s2.toNat : Int), .int .u8 (s3.toNat : Int)] 24 (0, 0)) := old_alloc (heap_alloc_new w0 (.cells #[.int .u8 (s0.toNat : Int), .int .u8 (s1.toNat : Int), .int .u8 (s2.toNat : Int), .int .u8 (s3.toNat : Int)] 24)) (.cells #[.int .u8 (d0.toNat : Int), .int .u8 (d1.toNat : Int), .int .u8 (d2.toNat : Int), .int .u8 (d3.toNat : Int)] 24)
    have h8 : (((w0.alloc (.cells #[.int .u8 (s0.toNat : Int), .int .u8 (s1.toNat : Int), .int .u8 (s2.toNat : Int), .int .u8 (s3.toNat : Int)] 24)).alloc (.cells #[.int .u8 (d0.toNat : Int), .int .u8 (d1.toNat : Int), .int .u8 (d2.toNat : Int), .int .u8 (d3.toNat : Int)] 24)).drew).heap[w0.heap.size + 1]? = some (.cells #[.int .u8 (d0.toNat : Int), .int .u8 (d1.toNat : Int), .int .u8 (d2.toNat : Int), .int .u8 (d3.toNat : Int)] 24 (0, 0)) := by
      have h := heap_alloc_new (w0.alloc (.cells #[.int .u8 (s0.toNat : Int), .int .u8 (s1.toNat : Int), .int .u8 (s2.toNat : Int), .int .u8 (s3.toNat : Int)] 24)) (.cells #[.int .u8 (d0.toNat : Int), .int .u8 (d1.toNat : Int), .int .u8 (d2.toNat : Int), .int .u8 (d3.toNat : Int)] 24)
      rw [World.size_alloc] at h
      exact h
    have HBW : Hid (Below w.heap.size w (((w0.alloc (.cells #[.int .u8 (s0.toNat : Int), .int .u8 (s1.toNat : Int), .int .u8 (s2.toNat : Int), .int .u8 (s3.toNat : Int)] 24)).alloc (.cells #[.int .u8 (d0.toNat : Int), .int .u8 (d1.toNat : Int), .int .u8 (d2.toNat : Int), .int .u8 (d3.toNat : Int)] 24)).drew)) := ((HB0.out.alloc HB0.out.size _).alloc (by have := HB0.out.size; simp; omega) _).drew
    clear k0 k1 k2 k3 k4 k5 k6 k7
    try clear hHeld
    try clear hS
    generalize ((w0.alloc (.cells #[.int .u8 (s0.toNat : Int), .int .u8 (s1.toNat : Int), .int .u8 (s2.toNat : Int), .int .u8 (s3.toNat : Int)] 24)).alloc (.cells #[.int .u8 (d0.toNat : Int), .int .u8 (d1.toNat : Int), .int .u8 (d2.toNat : Int), .int .u8 (d3.toNat : Int)] 24)).drew = w1 at h7 h8 HBW ⊢
    generalize w0.heap.size + 1 = g8 at h8 ⊢
    generalize w0.heap.size = g7 at h7 ⊢
    have HX7 := Lib.hid h7
    have HX8 := Lib.hid h8
    clear h7 h8
    go_wp2_with fail
    refine (lives_any _).mono ?_
    rintro e w3 ⟨rfl, hb3⟩
    have HB3 : Hid (Below w.heap.size w w3) := HBW.out.trans (hb3.mono HBW.out.size)
    have hy7 := (hb3.block _ (row_lt HX7.out)).trans HX7.out
    have hy8 := (hb3.block _ (row_lt HX8.out)).trans HX8.out
    have H7 : Hid (∀ w', Gro (fun _ => False) w3 w' → w'.heap[g7]? = some (.cells #[.int .u8 (s0.toNat : Int), .int .u8 (s1.toNat : Int), .int .u8 (s2.toNat : Int), .int .u8 (s3.toNat : Int)] 24 (0, 0))) := fun w' hg => (hg.block _ (row_lt hy7) (fun h => h)).trans hy7
    have H8 : Hid (∀ w', Gro (fun _ => False) w3 w' → w'.heap[g8]? = some (.cells #[.int .u8 (d0.toNat : Int), .int .u8 (d1.toNat : Int), .int .u8 (d2.toNat : Int), .int .u8 (d3.toNat : Int)] 24 (0, 0))) := fun w' hg => (hg.block _ (row_lt hy8) (fun h => h)).trans hy8
    clear hb3 hy7 hy8 HX7 HX8 HBW
    obtain ⟨t1, t2, t3, t4⟩ := HT.out
    obtain ⟨hu1, hu2⟩ := HU.out
    have hk := HKL.out
    go_wp2_with fail
    clear t1 t2 t3 t4 hu1 hu2
    apply wp_region_rely (fun _ => False) (RL [Is (.agg #[.int .u8 (s0.toNat : Int), .int .u8 (s1.toNat : Int), .int .u8 (s2.toNat : Int), .int .u8 (s3.toNat : Int)]), Is (.agg #[.int .u8 (d0.toNat : Int), .int .u8 (d1.toNat : Int), .int .u8 (d2.toNat : Int), .int .u8 (d3.toNat : Int)]), Is _, Is _, Fresh w3.heap.size ([s0, s1, s2, s3] ++ [d0, d1, d2, d3] ++ [0, y] ++ two k), Is (txt ([s0, s1, s2, s3] ++ [d0, d1, d2, d3] ++ [0, y] ++ two k)), Is (.agg #[.int .u8 (s0.toNat : Int), .int .u8 (s1.toNat : Int), .int .u8 (s2.toNat : Int), .int .u8 (s3.toNat : Int)]), Is (.agg #[.int .u8 (d0.toNat : Int), .int .u8 (d1.toNat : Int), .int .u8 (d2.toNat : Int), .int .u8 (d3.toNat : Int)]), Is _, Is _, Is (txt ([s0, s1, s2, s3] ++ [d0, d1, d2, d3] ++ [0, y] ++ two k)), Is (.bool true), Is (.bool true)]) [false, false, false, false, false, false, true, false, false, false, false, false, false, false, false, false, false, false, false, true, true, true, true, true, true, true, true, true, true, true, true]
    · kernel_rfl
    · kernel_rfl
    · kernel_rfl
    · refine ⟨?_, ?_, ?_, ?_, ?_, ?_, ?_, ?_, ?_, ?_, ?_, ?_, ?_, trivial⟩
      · intro ev w' hC hc hf hb hr K hK
        have e7 : ev (.tmp 7) = _ := hb 7 (by kernel_rfl)
        have HK := Lib.hid hK
        have HC := Lib.hid hC
        clear hb hr hK hC hf
        have hl := run_loadVar_row (P := Try.prog) w' g7 _ 24 _ _ _ ((H7.out w' HC.out)) Try.underlying24 rfl (by kernel_rfl)
        unfold Run
        rw [run_loadE 24 _ rfl e7 hl]
        exact HK.out _ _ (.inl (Below.refl _ _)) rfl
      · intro ev w' hC hc hf hb hr K hK
        have e8 : ev (.tmp 8) = _ := hb 8 (by kernel_rfl)
        have HK := Lib.hid hK
        have HC := Lib.hid hC
        clear hb hr hK hC hf
        have hl := run_loadVar_row (P := Try.prog) w' g8 _ 24 _ _ _ ((H8.out w' HC.out)) Try.underlying24 rfl (by kernel_rfl)
        unfold Run
        rw [run_loadE 24 _ rfl e8 hl]
        exact HK.out _ _ (.inl (Below.refl _ _)) rfl
      · intro ev w' hC hc hf hb hr K hK
        have e1 : ev (.tmp 1) = _ := hb 1 (by kernel_rfl)
        have HK := Lib.hid hK
        have HC := Lib.hid hC
        clear hb hr hK hC hf
        unfold Run
        simp [execOp, Upon, go_sem, *]
        exact HK.out _ _ (.inl (Below.refl _ _)) rfl
      · intro ev w' hC hc hf hb hr K hK
        have e2 : ev (.tmp 2) = _ := hb 2 (by kernel_rfl)
        have HK := Lib.hid hK
        have HC := Lib.hid hC
        clear hb hr hK hC hf
        unfold Run
        simp [execOp, Upon, go_sem, *]
        exact HK.out _ _ (.inl (Below.refl _ _)) rfl
      · intro ev w' hC hc hf hb hr K hK
        have e19 := hr 0 _ rfl (by kernel_rfl)
        have e20 := hr 1 _ rfl (by kernel_rfl)
        have e21 := hr 2 _ rfl (by kernel_rfl)
        have e22 := hr 3 _ rfl (by kernel_rfl)
        change ev (.tmp 19) = _ at e19
        change ev (.tmp 20) = _ at e20
        change ev (.tmp 21) = _ at e21
        change ev (.tmp 22) = _ at e22
        have HK := Lib.hid hK
        have HC := Lib.hid hC
        clear hb hr hK hC
        unfold Run
        simp [execOp, Upon, go_sem, *]
        refine (pseudo_any s0 s1 s2 s3 d0 d1 d2 d3 y k _).mono ?_
        rintro e w2 ⟨A2, c2, rfl, ho, hb⟩
        have hcap := own_cap ho
        exact ⟨_, rfl, HK.out _ _ (.inl hb) ⟨A2, c2, rfl, (Rd.own ho).wide HC.out.size (Nat.le_refl _), own_nil ho, hcap⟩⟩
      · intro ev w' hC hc hf hb hr K hK
        have e23 := hr 4 _ rfl (by kernel_rfl)
        change (Fresh w3.heap.size ([s0, s1, s2, s3] ++ [d0, d1, d2, d3] ++ [0, y] ++ two k) : Pred) (ev (.tmp 23)) _ at e23
        have HK := Lib.hid hK
        have HC := Lib.hid hC
        clear hb hr hK hC hf
        obtain ⟨A23, c23, q23, r23, _⟩ := e23
        have kt := run_text (P := Try.prog) w' 25 9 5 c23 Try.underlying25 Try.underlying5 Try.underlying9 r23
        clear r23
        unfold Run
        simp only [execOp, Upon, q23, kt, Sem.run_bind, Sem.run_pure, Result.andThen_ok]
        exact HK.out _ _ (.inl (Below.refl _ _)) rfl
      · intro ev w' hC hc hf hb hr K hK
        have e7 : ev (.tmp 7) = _ := hb 7 (by kernel_rfl)
        have HK := Lib.hid hK
        have HC := Lib.hid hC
        clear hb hr hK hC hf
        have hl := run_loadVar_row (P := Try.prog) w' g7 _ 24 _ _ _ ((H7.out w' HC.out)) Try.underlying24 rfl (by kernel_rfl)
        unfold Run
        rw [run_loadE 24 _ rfl e7 hl]
        exact HK.out _ _ (.inl (Below.refl _ _)) rfl
      · intro ev w' hC hc hf hb hr K hK
        have e8 : ev (.tmp 8) = _ := hb 8 (by kernel_rfl)
        have HK := Lib.hid hK
        have HC := Lib.hid hC
        clear hb hr hK hC hf
        have hl := run_loadVar_row (P := Try.prog) w' g8 _ 24 _ _ _ ((H8.out w' HC.out)) Try.underlying24 rfl (by kernel_rfl)
        unfold Run
        rw [run_loadE 24 _ rfl e8 hl]
        exact HK.out _ _ (.inl (Below.refl _ _)) rfl
      · intro ev w' hC hc hf hb hr K hK
        have e1 : ev (.tmp 1) = _ := hb 1 (by kernel_rfl)
        have HK := Lib.hid hK
        have HC := Lib.hid hC
        clear hb hr hK hC hf
        unfold Run
        simp [execOp, Upon, go_sem, *]
        exact HK.out _ _ (.inl (Below.refl _ _)) rfl
      · intro ev w' hC hc hf hb hr K hK
        have e2 : ev (.tmp 2) = _ := hb 2 (by kernel_rfl)
        have HK := Lib.hid hK
        have HC := Lib.hid hC
        clear hb hr hK hC hf
        unfold Run
        simp [execOp, Upon, go_sem, *]
        exact HK.out _ _ (.inl (Below.refl _ _)) rfl
      · intro ev w' hC hc hf hb hr K hK
        have e25 := hr 6 _ rfl (by kernel_rfl)
        have e26 := hr 7 _ rfl (by kernel_rfl)
        have e27 := hr 8 _ rfl (by kernel_rfl)
        have e28 := hr 9 _ rfl (by kernel_rfl)
        change ev (.tmp 25) = _ at e25
        change ev (.tmp 26) = _ at e26
        change ev (.tmp 27) = _ at e27
        change ev (.tmp 28) = _ at e28
        have HK := Lib.hid hK
        have HC := Lib.hid hC
        clear hb hr hK hC
        unfold Run
        simp [execOp, Upon, go_sem, *]
        refine (refpseudo_any s0 s1 s2 s3 d0 d1 d2 d3 y k _ hk).mono ?_
        rintro e w2 ⟨rfl, hb⟩
        exact ⟨_, rfl, HK.out _ _ (.inl hb) rfl⟩
      · intro ev w' hC hc hf hb hr K hK
        have e24 := hr 5 _ rfl (by kernel_rfl)
        have e29 := hr 10 _ rfl (by kernel_rfl)
        change ev (.tmp 24) = _ at e24
        change ev (.tmp 29) = _ at e29
        have HK := Lib.hid hK
        have HC := Lib.hid hC
        clear hb hr hK hC hf
        unfold Run
        simp [execOp, Upon, go_sem, *]
        exact HK.out _ _ (.inl (Below.refl _ _)) rfl
      · intro ev w' hC hc hf hb hr K hK
        have e30 := hr 11 _ rfl (by kernel_rfl)
        change ev (.tmp 30) = _ at e30
        have HK := Lib.hid hK
        have HC := Lib.hid hC
        clear hb hr hK hC hf
        unfold Run
        simp [execOp, Upon, go_sem, *]
        exact HK.out _ _ (.inl (Below.refl _ _)) rfl
    · exact rl_mono ⟨is_mono _, is_mono _, is_mono _, is_mono _, fresh_mono _ _, is_mono _, is_mono _, is_mono _, is_mono _, is_mono _, is_mono _, is_mono _, is_mono _, trivial⟩
    intro us wr hG hH
    obtain ⟨-, -, -, -, -, -, -, -, -, -, -, -, h12, -⟩ := hH
    simp only [fillM]
    change us 6 = _ at h12
    rw [h12]
    clear h12
    generalize us 19 = v19
    generalize us 20 = v20
    generalize us 21 = v21
    generalize us 22 = v22
    generalize us 23 = v23
    generalize us 24 = v24
    generalize us 25 = v25
    generalize us 26 = v26
    generalize us 27 = v27
    generalize us 28 = v28
    generalize us 29 = v29
    generalize us 30 = v30
    have HBF : Hid (Below w.heap.size w wr) := HB3.out.trans (hG.belowF.mono HB3.out.size)
    clear hG hk
    go_wp2
    go_ret
    exact ⟨rfl, HBF.out⟩
  · have h8 : (((w0.alloc (.cells #[.int .u8 (d0.toNat : Int), .int .u8 (d1.toNat : Int), .int .u8 (d2.toNat : Int), .int .u8 (d3.toNat : Int)] 24)).alloc (.cells #[.int .u8 (s0.toNat : Int), .int .u8 (s1.toNat : Int), .int .u8 (s2.toNat : Int), .int .u8 (s3.toNat : Int)] 24)).drew).heap[w0.heap.size]? = some (.cells #[.int .u8 (d0.toNat : Int), .int .u8 (d1.toNat : Int), .int .u8 (d2.toNat : Int), .int .u8 (d3.toNat : Int)] 24 (0, 0)) := old_alloc (heap_alloc_new w0 (.cells #[.int .u8 (d0.toNat : Int), .int .u8 (d1.toNat : Int), .int .u8 (d2.toNat : Int), .int .u8 (d3.toNat : Int)] 24)) (.cells #[.int .u8 (s0.toNat : Int), .int .u8 (s1.toNat : Int), .int .u8 (s2.toNat : Int), .int .u8 (s3.toNat : Int)] 24)
    have h7 : (((w0.alloc (.cells #[.int .u8 (d0.toNat : Int), .int .u8 (d1.toNat : Int), .int .u8 (d2.toNat : Int), .int .u8 (d3.toNat : Int)] 24)).alloc (.cells #[.int .u8 (s0.toNat : Int), .int .u8 (s1.toNat : Int), .int .u8 (s2.toNat : Int), .int .u8 (s3.toNat : Int)] 24)).drew).heap[w0.heap.size + 1]? = some (.cells #[.int .u8 (s0.toNat : Int), .int .u8 (s1.toNat : Int), .int .u8 (s2.toNat : Int), .int .u8 (s3.toNat : Int)] 24 (0, 0)) := by
      have h := heap_alloc_new (w0.alloc (.cells #[.int .u8 (d0.toNat : Int), .int .u8 (d1.toNat : Int), .int .u8 (d2.toNat : Int), .int .u8 (d3.toNat : Int)] 24)) (.cells #[.int .u8 (s0.toNat : Int), .int .u8 (s1.toNat : Int), .int .u8 (s2.toNat : Int), .int .u8 (s3.toNat : Int)] 24)
      rw [World.size_alloc] at h
      exact h
    have HBW : Hid (Below w.heap.size w (((w0.alloc (.cells #[.int .u8 (d0.toNat : Int), .int .u8 (d1.toNat : Int), .int .u8 (d2.toNat : Int), .int .u8 (d3.toNat : Int)] 24)).alloc (.cells #[.int .u8 (s0.toNat : Int), .int .u8 (s1.toNat : Int), .int .u8 (s2.toNat : Int), .int .u8 (s3.toNat : Int)] 24)).drew)) := ((HB0.out.alloc HB0.out.size _).alloc (by have := HB0.out.size; simp; omega) _).drew
    clear k0 k1 k2 k3 k4 k5 k6 k7
    try clear hHeld
    try clear hS
    generalize ((w0.alloc (.cells #[.int .u8 (d0.toNat : Int), .int .u8 (d1.toNat : Int), .int .u8 (d2.toNat : Int), .int .u8 (d3.toNat : Int)] 24)).alloc (.cells #[.int .u8 (s0.toNat : Int), .int .u8 (s1.toNat : Int), .int .u8 (s2.toNat : Int), .int .u8 (s3.toNat : Int)] 24)).drew = w1 at h7 h8 HBW ⊢
    generalize w0.heap.size + 1 = g7 at h7 ⊢
    generalize w0.heap.size = g8 at h8 ⊢
    have HX7 := Lib.hid h7
    have HX8 := Lib.hid h8
    clear h7 h8
    go_wp2_with fail
    refine (lives_any _).mono ?_
    rintro e w3 ⟨rfl, hb3⟩
    have HB3 : Hid (Below w.heap.size w w3) := HBW.out.trans (hb3.mono HBW.out.size)
    have hy7 := (hb3.block _ (row_lt HX7.out)).trans HX7.out
    have hy8 := (hb3.block _ (row_lt HX8.out)).trans HX8.out
    have H7 : Hid (∀ w', Gro (fun _ => False) w3 w' → w'.heap[g7]? = some (.cells #[.int .u8 (s0.toNat : Int), .int .u8 (s1.toNat : Int), .int .u8 (s2.toNat : Int), .int .u8 (s3.toNat : Int)] 24 (0, 0))) := fun w' hg => (hg.block _ (row_lt hy7) (fun h => h)).trans hy7
    have H8 : Hid (∀ w', Gro (fun _ => False) w3 w' → w'.heap[g8]? = some (.cells #[.int .u8 (d0.toNat : Int), .int .u8 (d1.toNat : Int), .int .u8 (d2.toNat : Int), .int .u8 (d3.toNat : Int)] 24 (0, 0))) := fun w' hg => (hg.block _ (row_lt hy8) (fun h => h)).trans hy8
    clear hb3 hy7 hy8 HX7 HX8 HBW
    obtain ⟨t1, t2, t3, t4⟩ := HT.out
    obtain ⟨hu1, hu2⟩ := HU.out
    have hk := HKL.out
    go_wp2_with fail
    clear t1 t2 t3 t4 hu1 hu2
    apply wp_region_rely (fun _ => False) (RL [Is (.agg #[.int .u8 (s0.toNat : Int), .int .u8 (s1.toNat : Int), .int .u8 (s2.toNat : Int), .int .u8 (s3.toNat : Int)]), Is (.agg #[.int .u8 (d0.toNat : Int), .int .u8 (d1.toNat : Int), .int .u8 (d2.toNat : Int), .int .u8 (d3.toNat : Int)]), Is _, Is _, Fresh w3.heap.size ([s0, s1, s2, s3] ++ [d0, d1, d2, d3] ++ [0, y] ++ two k), Is (txt ([s0, s1, s2, s3] ++ [d0, d1, d2, d3] ++ [0, y] ++ two k)), Is (.agg #[.int .u8 (s0.toNat : Int), .int .u8 (s1.toNat : Int), .int .u8 (s2.toNat : Int), .int .u8 (s3.toNat : Int)]), Is (.agg #[.int .u8 (d0.toNat : Int), .int .u8 (d1.toNat : Int), .int .u8 (d2.toNat : Int), .int .u8 (d3.toNat : Int)]), Is _, Is _, Is (txt ([s0, s1, s2, s3] ++ [d0, d1, d2, d3] ++ [0, y] ++ two k)), Is (.bool true), Is (.bool true)]) [false, false, false, false, false, false, true, false, false, false, false, false, false, false, false, false, false, false, false, true, true, true, true, true, true, true, true, true, true, true, true]
    · kernel_rfl
    · kernel_rfl
    · kernel_rfl
    · refine ⟨?_, ?_, ?_, ?_, ?_, ?_, ?_, ?_, ?_, ?_, ?_, ?_, ?_, trivial⟩
      · intro ev w' hC hc hf hb hr K hK
        have e7 : ev (.tmp 7) = _ := hb 7 (by kernel_rfl)
        have HK := Lib.hid hK
        have HC := Lib.hid hC
        clear hb hr hK hC hf
        have hl := run_loadVar_row (P := Try.prog) w' g7 _ 24 _ _ _ ((H7.out w' HC.out)) Try.underlying24 rfl (by kernel_rfl)
        unfold Run
        rw [run_loadE 24 _ rfl e7 hl]
        exact HK.out _ _ (.inl (Below.refl _ _)) rfl
      · intro ev w' hC hc hf hb hr K hK
        have e8 : ev (.tmp 8) = _ := hb 8 (by kernel_rfl)
        have HK := Lib.hid hK
        have HC := Lib.hid hC
        clear hb hr hK hC hf
        have hl := run_loadVar_row (P := Try.prog) w' g8 _ 24 _ _ _ ((H8.out w' HC.out)) Try.underlying24 rfl (by kernel_rfl)
        unfold Run
        rw [run_loadE 24 _ rfl e8 hl]
        exact HK.out _ _ (.inl (Below.refl _ _)) rfl
      · intro ev w' hC hc hf hb hr K hK
        have e1 : ev (.tmp 1) = _ := hb 1 (by kernel_rfl)
        have HK := Lib.hid hK
        have HC := Lib.hid hC
        clear hb hr hK hC hf
        unfold Run
        simp [execOp, Upon, go_sem, *]
        exact HK.out _ _ (.inl (Below.refl _ _)) rfl
      · intro ev w' hC hc hf hb hr K hK
        have e2 : ev (.tmp 2) = _ := hb 2 (by kernel_rfl)
        have HK := Lib.hid hK
        have HC := Lib.hid hC
        clear hb hr hK hC hf
        unfold Run
        simp [execOp, Upon, go_sem, *]
        exact HK.out _ _ (.inl (Below.refl _ _)) rfl
      · intro ev w' hC hc hf hb hr K hK
        have e19 := hr 0 _ rfl (by kernel_rfl)
        have e20 := hr 1 _ rfl (by kernel_rfl)
        have e21 := hr 2 _ rfl (by kernel_rfl)
        have e22 := hr 3 _ rfl (by kernel_rfl)
        change ev (.tmp 19) = _ at e19
        change ev (.tmp 20) = _ at e20
        change ev (.tmp 21) = _ at e21
        change ev (.tmp 22) = _ at e22
        have HK := Lib.hid hK
        have HC := Lib.hid hC
        clear hb hr hK hC
        unfold Run
        simp [execOp, Upon, go_sem, *]
        refine (pseudo_any s0 s1 s2 s3 d0 d1 d2 d3 y k _).mono ?_
        rintro e w2 ⟨A2, c2, rfl, ho, hb⟩
        have hcap := own_cap ho
        exact ⟨_, rfl, HK.out _ _ (.inl hb) ⟨A2, c2, rfl, (Rd.own ho).wide HC.out.size (Nat.le_refl _), own_nil ho, hcap⟩⟩
      · intro ev w' hC hc hf hb hr K hK
        have e23 := hr 4 _ rfl (by kernel_rfl)
        change (Fresh w3.heap.size ([s0, s1, s2, s3] ++ [d0, d1, d2, d3] ++ [0, y] ++ two k) : Pred) (ev (.tmp 23)) _ at e23
        have HK := Lib.hid hK
        have HC := Lib.hid hC
        clear hb hr hK hC hf
        obtain ⟨A23, c23, q23, r23, _⟩ := e23
        have kt := run_text (P := Try.prog) w' 25 9 5 c23 Try.underlying25 Try.underlying5 Try.underlying9 r23
        clear r23
        unfold Run
        simp only [execOp, Upon, q23, kt, Sem.run_bind, Sem.run_pure, Result.andThen_ok]
        exact HK.out _ _ (.inl (Below.refl _ _)) rfl
      · intro ev w' hC hc hf hb hr K hK
        have e7 : ev (.tmp 7) = _ := hb 7 (by kernel_rfl)
        have HK := Lib.hid hK
        have HC := Lib.hid hC
        clear hb hr hK hC hf
        have hl := run_loadVar_row (P := Try.prog) w' g7 _ 24 _ _ _ ((H7.out w' HC.out)) Try.underlying24 rfl (by kernel_rfl)
        unfold Run
        rw [run_loadE 24 _ rfl e7 hl]
        exact HK.out _ _ (.inl (Below.refl _ _)) rfl
      · intro ev w' hC hc hf hb hr K hK
        have e8 : ev (.tmp 8) = _ := hb 8 (by kernel_rfl)
        have HK := Lib.hid hK
        have HC := Lib.hid hC
        clear hb hr hK hC hf
        have hl := run_loadVar_row (P := Try.prog) w' g8 _ 24 _ _ _ ((H8.out w' HC.out)) Try.underlying24 rfl (by kernel_rfl)
        unfold Run
        rw [run_loadE 24 _ rfl e8 hl]
        exact HK.out _ _ (.inl (Below.refl _ _)) rfl
      · intro ev w' hC hc hf hb hr K hK
        have e1 : ev (.tmp 1) = _ := hb 1 (by kernel_rfl)
        have HK := Lib.hid hK
        have HC := Lib.hid hC
        clear hb hr hK hC hf
        unfold Run
        simp [execOp, Upon, go_sem, *]
        exact HK.out _ _ (.inl (Below.refl _ _)) rfl
      · intro ev w' hC hc hf hb hr K hK
        have e2 : ev (.tmp 2) = _ := hb 2 (by kernel_rfl)
        have HK := Lib.hid hK
        have HC := Lib.hid hC
        clear hb hr hK hC hf
        unfold Run
        simp [execOp, Upon, go_sem, *]
        exact HK.out _ _ (.inl (Below.refl _ _)) rfl
      · intro ev w' hC hc hf hb hr K hK
        have e25 := hr 6 _ rfl (by kernel_rfl)
        have e26 := hr 7 _ rfl (by kernel_rfl)
        have e27 := hr 8 _ rfl (by kernel_rfl)
        have e28 := hr 9 _ rfl (by kernel_rfl)
        change ev (.tmp 25) = _ at e25
        change ev (.tmp 26) = _ at e26
        change ev (.tmp 27) = _ at e27
        change ev (.tmp 28) = _ at e28
        have HK := Lib.hid hK
        have HC := Lib.hid hC
        clear hb hr hK hC
        unfold Run
        simp [execOp, Upon, go_sem, *]
        refine (refpseudo_any s0 s1 s2 s3 d0 d1 d2 d3 y k _ hk).mono ?_
        rintro e w2 ⟨rfl, hb⟩
        exact ⟨_, rfl, HK.out _ _ (.inl hb) rfl⟩
      · intro ev w' hC hc hf hb hr K hK
        have e24 := hr 5 _ rfl (by kernel_rfl)
        have e29 := hr 10 _ rfl (by kernel_rfl)
        change ev (.tmp 24) = _ at e24
        change ev (.tmp 29) = _ at e29
        have HK := Lib.hid hK
        have HC := Lib.hid hC
        clear hb hr hK hC hf
        unfold Run
        simp [execOp, Upon, go_sem, *]
        exact HK.out _ _ (.inl (Below.refl _ _)) rfl
      · intro ev w' hC hc hf hb hr K hK
        have e30 := hr 11 _ rfl (by kernel_rfl)
        change ev (.tmp 30) = _ at e30
        have HK := Lib.hid hK
        have HC := Lib.hid hC
        clear hb hr hK hC hf
        unfold Run
        simp [execOp, Upon, go_sem, *]
        exact HK.out _ _ (.inl (Below.refl _ _)) rfl
    · exact rl_mono ⟨is_mono _, is_mono _, is_mono _, is_mono _, fresh_mono _ _, is_mono _, is_mono _, is_mono _, is_mono _, is_mono _, is_mono _, is_mono _, is_mono _, trivial⟩
    intro us wr hG hH
    obtain ⟨-, -, -, -, -, -, -, -, -, -, -, -, h12, -⟩ := hH
    simp only [fillM]
    change us 6 = _ at h12
    rw [h12]
    clear h12
    generalize us 19 = v19
    generalize us 20 = v20
    generalize us 21 = v21
    generalize us 22 = v22
    generalize us 23 = v23
    generalize us 24 = v24
    generalize us 25 = v25
    generalize us 26 = v26
    generalize us 27 = v27
    generalize us 28 = v28
    generalize us 29 = v29
    generalize us 30 = v30
    have HBF : Hid (Below w.heap.size w wr) := HB3.out.trans (hG.belowF.mono HB3.out.size)
    clear hG hk
    go_wp2
    go_ret
    exact ⟨rfl, HBF.out⟩

theorem pseudolaw_any (c0 : List Value) (a1 a2 : Int) (w : World) (w0 : (Sh.rep 2 (.rep 4 (.num .u8))).ok w c0) (w1 : (Lit.int .u8 a1).wf = true) :
    Calls Try.prog 6 #[.agg c0.toArray, .int .u8 a1, .int .i64 a2] w fun e w' => e = .returned (.bool true) ∧ Below w.heap.size w w' := by
  obtain ⟨x, z, rfl, hx, hz⟩ := rep_twice w0
  obtain ⟨l, hl, rfl⟩ := rep_bytes hx
  obtain ⟨m, hm, rfl⟩ := rep_bytes hz
  obtain ⟨s0, s1, s2, s3, rfl⟩ := four_of l hl
  obtain ⟨d0, d1, d2, d3, rfl⟩ := four_of m hm
  have hb : 0 ≤ a1 ∧ a1 ≤ 255 := by
    simp [Lit.wf, IntKind.min, IntKind.max, IntKind.signed, IntKind.bits] at w1
    omega
  obtain ⟨y, rfl⟩ : ∃ y : UInt8, a1 = (y.toNat : Int) := ⟨UInt8.ofNat a1.toNat, by rw [u8_of]; omega⟩
  exact pseudolaw_walk s0 s1 s2 s3 d0 d1 d2 d3 y a2 w
end Go.Proofs.Ytbmjjhflaocgiaa
