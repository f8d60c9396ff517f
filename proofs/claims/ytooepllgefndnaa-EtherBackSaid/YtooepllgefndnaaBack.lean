/-
  EtherBack returns true for every slice of bytes, and turns nothing that was there.
-/
import Derived.Test.YtooepllgefndnaaReads
import Derived.Test.YtooepllgefndnaaParses
import Derived.Deep.QuietTactic
import Derived.BigQuiet
import Derived.Test.YtooepllgefndnaaShape
namespace Go.Proofs.Ytooepllgefndnaa
open Go.RowKit

set_option maxHeartbeats 1000000 in
theorem back_big (A : Option Addr) (n c : Nat) (w : World) (hn : 400 < n) (hm : n ≤ 9223372036854775807) :
    Calls Try.prog 8 #[.slice A n c] w fun e w' => e = .returned (.bool true) ∧ Below w.heap.size w w' := by
  go_enter Try.func8, Try.ntmps8
  go_wp2_with fail
  refine (lives_any _).mono ?_
  rintro e w1 ⟨rfl, hb1⟩
  go_wp2_with fail
  refine (lives_any _).mono ?_
  rintro e w2 ⟨rfl, hb2⟩
  have HB := Lib.hid (hb1.trans (hb2.mono hb1.size))
  clear hb1 hb2
  go_wp2
  go_ret
  exact ⟨rfl, HB.out⟩

/-- what is parsed is zero, or its bytes are those that were parsed -/
theorem parse_back (l : List UInt8) : (∃ er, parseS l = (Fr.zero, er) ∧ (er = 4 ∨ er = 6)) ∨ (∃ f, parseS l = (f, 0) ∧ buildS f = (l, 0)) := by
  unfold parseS
  by_cases h1 : 214 < l.length
  · rw [if_pos h1]; exact .inl ⟨4, rfl, .inl rfl⟩
  · rw [if_neg h1]
    by_cases h2 : l.length < 14
    · rw [if_pos h2]; exact .inl ⟨6, rfl, .inr rfl⟩
    · rw [if_neg h2]
      refine .inr ⟨_, rfl, ?_⟩
      unfold buildS
      rw [if_neg (by simp [frOf]; omega), bytes_frOf (by omega)]
theorem parseA_back (l : List UInt8) : (∃ er, parseA l = (Ar.zero, er) ∧ (er = 6 ∨ er = 7)) ∨ (∃ a, parseA l = (a, 0) ∧ buildA a = (l.take 28, 0) ∧ 28 ≤ l.length) := by
  unfold parseA
  by_cases h1 : l.length < 28
  · rw [if_pos h1]; exact .inl ⟨6, rfl, .inl rfl⟩
  · rw [if_neg h1]
    by_cases h2 : l.take 7 = headB ∧ knownB (arOf l).o = true
    · rw [if_pos h2]
      refine .inr ⟨_, rfl, ?_, by omega⟩
      unfold buildA
      rw [if_pos h2.2, bytes_arOf (by omega) h2.1]
    · rw [if_neg h2]; exact .inl ⟨7, rfl, .inr rfl⟩

set_option maxRecDepth 100000 in
set_option maxHeartbeats 2000000 in
/-- the second half: the Arp of the bytes -/
theorem back_walk (A : Option Addr) (l : List UInt8) (n c : Nat) (w : World) (hl : l.length = n) (hn : n ≤ 400) (h : Rd w 0 w.heap.size A (cells l)) (hc : n ≤ c) (hm : c ≤ maxLen) :
    Calls Try.prog 8 #[.slice A n c] w fun e w' => e = .returned (.bool true) ∧ Below w.heap.size w w' := by
  have HL := Lib.hid hl
  have HR := Lib.hid h
  have HM := Lib.hid hm
  have HC := Lib.hid hc
  clear hl h hm hc
  go_enter Try.func8, Try.ntmps8
  go_wp2_with fail
  refine (lives_any _).mono ?_
  rintro e w1 ⟨rfl, hb1⟩
  have HB1 := Lib.hid hb1
  clear hb1
  go_wp2_with fail
  have hp := parse_len A l n c 0 w.heap.size w1 HL.out (HR.out.below HB1.out (Nat.le_refl _)) HB1.out.size HC.out HM.out
  rcases parse_back l with ⟨er, hpr, her⟩ | ⟨f, hpr, hbf⟩
  · rw [hpr] at hp
    have HN : Hid ((er == 0) = false) := by rcases her with rfl | rfl <;> rfl
    clear hpr her
    refine hp.mono ?_
    rintro e w2 ⟨cs, rfl, hf, hb2⟩
    have hB2 := HB1.out.trans (hb2.mono HB1.out.size)
    have HB2 := Lib.hid (hB2.alloc hB2.size (.cells cs 27))
    have HS2 := Lib.hid hf.size
    have HO2 := Lib.hid hf.one
    have hne := HN.out
    clear hp hf hb2 hB2
    go_wp2_with (refine wpList_store_new rfl 27 _ _ rfl w2 #[.int .u8 0, .int .u8 0, .int .u8 0, .int .u8 0, .int .u8 0, .int .u8 0, .int .u8 0, .int .u8 0, .int .u8 0, .int .u8 0, .int .u8 0, .int .u8 0, .int .u16 0, .slice none 0 0] cs rfl rfl (size_fr HS2.out) HS2.out.symm HO2.out ?_)
    clear hne HS2 HO2 HN
    generalize w2.alloc (.cells cs 27) = w5 at HB2 ⊢
    have HB5 := HB2
    clear HB2 HB1
    have hq := parsearp_len A l n c 0 w.heap.size w5 HL.out (HR.out.below HB5.out (Nat.le_refl _)) HB5.out.size (by omega) HC.out HM.out
    rcases parseA_back l with ⟨er, hpr, her⟩ | ⟨a, hpr, hba, h28⟩
    · rw [hpr] at hq
      have HN : Hid ((er == 0) = false ∧ (er != 0) = true) := by rcases her with rfl | rfl <;> exact ⟨rfl, rfl⟩
      clear hpr her
      refine hq.mono ?_
      rintro e w6 ⟨ds, rfl, hd, hb6⟩
      have hB6 := HB5.out.trans (hb6.mono HB5.out.size)
      have HB6 := Lib.hid (hB6.alloc hB6.size (.cells ds 44))
      have HX6 := Lib.hid (heap_alloc_new w6 (.cells ds 44))
      have HS6 := Lib.hid hd.size
      have HO6 := Lib.hid hd.one
      obtain ⟨hne1, hne2⟩ := HN.out
      have he := eq_arps 9997 ds #[.int .i64 0, .int .u8 0, .int .u8 0, .int .u8 0, .int .u8 0, .int .u8 0, .int .u8 0, .int .u8 0, .int .u8 0, .int .u8 0, .int .u8 0, .int .u8 0, .int .u8 0, .int .u8 0, .int .u8 0, .int .u8 0, .int .u8 0, .int .u8 0, .int .u8 0, .int .u8 0, .int .u8 0] Ar.zero Ar.zero hd zero_arV true (arEq_self _)
      clear hq hd hb6 hB6 HN HB5
      go_wp2_with (first | refine wpList_store_new rfl 44 _ _ rfl w6 #[.int .i64 0, .int .u8 0, .int .u8 0, .int .u8 0, .int .u8 0, .int .u8 0, .int .u8 0, .int .u8 0, .int .u8 0, .int .u8 0, .int .u8 0, .int .u8 0, .int .u8 0, .int .u8 0, .int .u8 0, .int .u8 0, .int .u8 0, .int .u8 0, .int .u8 0, .int .u8 0, .int .u8 0] ds rfl rfl (size_ar HS6.out) HS6.out.symm HO6.out ?_ | refine wpList_load_row rfl 44 _ rfl w6.heap.size rfl _ ds _ _ HX6.out Try.underlying44 rfl (size_ar HS6.out) ?_)
      go_ret
      exact ⟨rfl, HB6.out⟩
    · rw [hpr] at hq
      have HBA := Lib.hid hba
      have hlt : (l.take 28).length = 28 := by rw [List.length_take]; omega
      have HT28 := Lib.hid hlt
      have h28n : (28 : Int) ≤ (c : Int) := by have := HC.out; have := HL.out; omega
      clear hpr hba hlt h28
      refine hq.mono ?_
      rintro e w6 ⟨ds, rfl, hd, hb6⟩
      have hB6 := HB5.out.trans (hb6.mono HB5.out.size)
      have HB6 := Lib.hid (hB6.alloc hB6.size (.cells ds 44))
      have HX6 := Lib.hid (heap_alloc_new w6 (.cells ds 44))
      have HS6 := Lib.hid hd.size
      have HO6 := Lib.hid hd.one
      have HD := Lib.hid hd
      clear hq hd hb6 hB6 HB5
      go_wp2_with (first | refine wpList_store_new rfl 44 _ _ rfl w6 #[.int .i64 0, .int .u8 0, .int .u8 0, .int .u8 0, .int .u8 0, .int .u8 0, .int .u8 0, .int .u8 0, .int .u8 0, .int .u8 0, .int .u8 0, .int .u8 0, .int .u8 0, .int .u8 0, .int .u8 0, .int .u8 0, .int .u8 0, .int .u8 0, .int .u8 0, .int .u8 0, .int .u8 0] ds rfl rfl (size_ar HS6.out) HS6.out.symm HO6.out ?_ | refine wpList_load_row rfl 44 _ rfl w6.heap.size rfl _ ds _ _ HX6.out Try.underlying44 rfl (size_ar HS6.out) ?_)
      have hb := buildarp_any ds a (w6.alloc (.cells ds 44)) HD.out
      rw [HBA.out] at hb
      unfold OwnPost at hb
      simp only at hb
      rw [HT28.out] at hb
      refine hb.mono ?_
      rintro e w7 ⟨A7, c7, rfl, ho7, hb7⟩
      unfold OwnB at ho7
      rw [HT28.out] at ho7
      have HB7 := Lib.hid (HB6.out.trans (hb7.mono HB6.out.size))
      have hr1 := Rd.own ho7
      have hr2 := (HR.out.below HB7.out (Nat.le_refl _)).take 28
      rw [cells_take] at hr2
      obtain ⟨T, hT⟩ : ∃ T, l.take 28 = T := ⟨_, rfl⟩
      have hTL := HT28.out
      rw [hT] at hr1 hr2 hTL
      have ht1 := fun k => run_text (P := Try.prog) (w7.drewN k) 25 9 5 c7 Try.underlying25 Try.underlying5 Try.underlying9 (hr1.drewN k)
      have ht2 := fun k => run_text (P := Try.prog) (w7.drewN k) 25 9 5 c Try.underlying25 Try.underlying5 Try.underlying9 (hr2.drewN k)
      rw [hTL] at ht1 ht2
      clear hb hb7 ho7 hr1 hr2 hT hTL HB6 HX6 HS6 HO6 HD HBA HT28
      go_wp2_with fail
      go_quiet (fail)
      rename_i nq
      have HB8 := Lib.hid (below_drewN' HB7.out nq)
      clear ht1 ht2 HB7
      go_wp2
      go_ret
      exact ⟨rfl, HB8.out⟩
  · rw [hpr] at hp
    have HBF := Lib.hid hbf
    clear hpr hbf
    refine hp.mono ?_
    rintro e w2 ⟨cs, rfl, hf, hb2⟩
    have hB2 := HB1.out.trans (hb2.mono HB1.out.size)
    have HB2 := Lib.hid (hB2.alloc hB2.size (.cells cs 27))
    have HX2 := Lib.hid (heap_alloc_new w2 (.cells cs 27))
    have HS2 := Lib.hid hf.size
    have HO2 := Lib.hid hf.one
    have HF2 := Lib.hid (hf.alloc (Nat.le_refl _) (.cells cs 27))
    have HZ2 : Hid (w2.heap.size ≤ (w2.alloc (.cells cs 27)).heap.size) := by show _ ≤ _; simp
    clear hp hf hb2 hB2
    go_wp2_with (first | refine wpList_store_new rfl 27 _ _ rfl w2 #[.int .u8 0, .int .u8 0, .int .u8 0, .int .u8 0, .int .u8 0, .int .u8 0, .int .u8 0, .int .u8 0, .int .u8 0, .int .u8 0, .int .u8 0, .int .u8 0, .int .u16 0, .slice none 0 0] cs rfl rfl (size_fr HS2.out) HS2.out.symm HO2.out ?_ | refine wpList_load_row rfl 27 _ rfl w2.heap.size rfl _ cs _ _ HX2.out Try.underlying27 rfl (size_fr HS2.out) ?_)
    generalize w2.alloc (.cells cs 27) = w3 at HB2 HX2 HF2 HZ2 ⊢
    have hb := build_any cs f w3 w1.heap.size w2.heap.size HF2.out HZ2.out
    rw [HBF.out] at hb
    unfold OwnPost at hb
    simp only at hb
    rw [HL.out] at hb
    refine hb.mono ?_
    rintro e w5 ⟨A5, c5, rfl, ho5, hb5⟩
    unfold OwnB at ho5
    rw [HL.out] at ho5
    have HB5 := Lib.hid (HB2.out.trans (hb5.mono HB2.out.size))
    have ht1 := run_text (P := Try.prog) w5 25 9 5 c5 Try.underlying25 Try.underlying5 Try.underlying9 (Rd.own ho5)
    have ht2 := run_text (P := Try.prog) w5 25 9 5 c Try.underlying25 Try.underlying5 Try.underlying9 (HR.out.below HB5.out (Nat.le_refl _))
    rw [HL.out] at ht1 ht2
    clear hb5 ho5 hb HX2 HF2 HZ2 HB2 HB1
    go_wp2_with fail
    clear ht1 ht2
    have hq := parsearp_len A l n c 0 w.heap.size w5 HL.out (HR.out.below HB5.out (Nat.le_refl _)) HB5.out.size (by omega) HC.out HM.out
    rcases parseA_back l with ⟨er, hpr, her⟩ | ⟨a, hpr, hba, h28⟩
    · rw [hpr] at hq
      have HN : Hid ((er == 0) = false ∧ (er != 0) = true) := by rcases her with rfl | rfl <;> exact ⟨rfl, rfl⟩
      clear hpr her
      refine hq.mono ?_
      rintro e w6 ⟨ds, rfl, hd, hb6⟩
      have hB6 := HB5.out.trans (hb6.mono HB5.out.size)
      have HB6 := Lib.hid (hB6.alloc hB6.size (.cells ds 44))
      have HX6 := Lib.hid (heap_alloc_new w6 (.cells ds 44))
      have HS6 := Lib.hid hd.size
      have HO6 := Lib.hid hd.one
      obtain ⟨hne1, hne2⟩ := HN.out
      have he := eq_arps 9997 ds #[.int .i64 0, .int .u8 0, .int .u8 0, .int .u8 0, .int .u8 0, .int .u8 0, .int .u8 0, .int .u8 0, .int .u8 0, .int .u8 0, .int .u8 0, .int .u8 0, .int .u8 0, .int .u8 0, .int .u8 0, .int .u8 0, .int .u8 0, .int .u8 0, .int .u8 0, .int .u8 0, .int .u8 0] Ar.zero Ar.zero hd zero_arV true (arEq_self _)
      clear hq hd hb6 hB6 HN HB5
      go_wp2_with (first | refine wpList_store_new rfl 44 _ _ rfl w6 #[.int .i64 0, .int .u8 0, .int .u8 0, .int .u8 0, .int .u8 0, .int .u8 0, .int .u8 0, .int .u8 0, .int .u8 0, .int .u8 0, .int .u8 0, .int .u8 0, .int .u8 0, .int .u8 0, .int .u8 0, .int .u8 0, .int .u8 0, .int .u8 0, .int .u8 0, .int .u8 0, .int .u8 0] ds rfl rfl (size_ar HS6.out) HS6.out.symm HO6.out ?_ | refine wpList_load_row rfl 44 _ rfl w6.heap.size rfl _ ds _ _ HX6.out Try.underlying44 rfl (size_ar HS6.out) ?_)
      go_ret
      exact ⟨rfl, HB6.out⟩
    · rw [hpr] at hq
      have HBA := Lib.hid hba
      have hlt : (l.take 28).length = 28 := by rw [List.length_take]; omega
      have HT28 := Lib.hid hlt
      have h28n : (28 : Int) ≤ (c : Int) := by have := HC.out; have := HL.out; omega
      clear hpr hba hlt h28
      refine hq.mono ?_
      rintro e w6 ⟨ds, rfl, hd, hb6⟩
      have hB6 := HB5.out.trans (hb6.mono HB5.out.size)
      have HB6 := Lib.hid (hB6.alloc hB6.size (.cells ds 44))
      have HX6 := Lib.hid (heap_alloc_new w6 (.cells ds 44))
      have HS6 := Lib.hid hd.size
      have HO6 := Lib.hid hd.one
      have HD := Lib.hid hd
      clear hq hd hb6 hB6 HB5
      go_wp2_with (first | refine wpList_store_new rfl 44 _ _ rfl w6 #[.int .i64 0, .int .u8 0, .int .u8 0, .int .u8 0, .int .u8 0, .int .u8 0, .int .u8 0, .int .u8 0, .int .u8 0, .int .u8 0, .int .u8 0, .int .u8 0, .int .u8 0, .int .u8 0, .int .u8 0, .int .u8 0, .int .u8 0, .int .u8 0, .int .u8 0, .int .u8 0, .int .u8 0] ds rfl rfl (size_ar HS6.out) HS6.out.symm HO6.out ?_ | refine wpList_load_row rfl 44 _ rfl w6.heap.size rfl _ ds _ _ HX6.out Try.underlying44 rfl (size_ar HS6.out) ?_)
      have hb := buildarp_any ds a (w6.alloc (.cells ds 44)) HD.out
      rw [HBA.out] at hb
      unfold OwnPost at hb
      simp only at hb
      rw [HT28.out] at hb
      refine hb.mono ?_
      rintro e w7 ⟨A7, c7, rfl, ho7, hb7⟩
      unfold OwnB at ho7
      rw [HT28.out] at ho7
      have HB7 := Lib.hid (HB6.out.trans (hb7.mono HB6.out.size))
      have hr1 := Rd.own ho7
      have hr2 := (HR.out.below HB7.out (Nat.le_refl _)).take 28
      rw [cells_take] at hr2
      obtain ⟨T, hT⟩ : ∃ T, l.take 28 = T := ⟨_, rfl⟩
      have hTL := HT28.out
      rw [hT] at hr1 hr2 hTL
      have ht1 := fun k => run_text (P := Try.prog) (w7.drewN k) 25 9 5 c7 Try.underlying25 Try.underlying5 Try.underlying9 (hr1.drewN k)
      have ht2 := fun k => run_text (P := Try.prog) (w7.drewN k) 25 9 5 c Try.underlying25 Try.underlying5 Try.underlying9 (hr2.drewN k)
      rw [hTL] at ht1 ht2
      clear hb hb7 ho7 hr1 hr2 hT hTL HB6 HX6 HS6 HO6 HD HBA HT28
      go_wp2_with fail
      go_quiet (fail)
      rename_i nq
      have HB8 := Lib.hid (below_drewN' HB7.out nq)
      clear ht1 ht2 HB7
      go_wp2
      go_ret
      exact ⟨rfl, HB8.out⟩
end Go.Proofs.Ytooepllgefndnaa
