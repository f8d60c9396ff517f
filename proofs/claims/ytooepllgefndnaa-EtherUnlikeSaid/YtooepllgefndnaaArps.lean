/-
  EtherArps returns true for every Arp and every slice of bytes behind it, and turns nothing that was there.
-/
import Derived.Test.YtooepllgefndnaaReads
import Derived.Test.YtooepllgefndnaaShape
namespace Go.Proofs.Ytooepllgefndnaa
open Go.RowKit

/-- an Arp, as the laws' frames tell of it -/
theorem ar_of_ok {w : World} {cs : List Value} (h : (Sh.cat (.num .i64) (.cat (.rep 6 (.num .u8)) (.cat (.rep 4 (.num .u8)) (.cat (.rep 6 (.num .u8)) (.cat (.rep 4 (.num .u8)) .non))))).ok w cs) : ∃ a : Ar, ArV cs.toArray a := by
  obtain ⟨c0, c1, rfl, ⟨o, rfl, _⟩, c2, c3, rfl, h2, c4, c5, rfl, h4, c6, c7, rfl, h6, c8, c9, rfl, h8, rfl⟩ := h
  obtain ⟨m, hm, rfl⟩ := rep_bytes h2
  obtain ⟨i, hi, rfl⟩ := rep_bytes h4
  obtain ⟨p, hp, rfl⟩ := rep_bytes h6
  obtain ⟨j, hj, rfl⟩ := rep_bytes h8
  exact ⟨⟨o, m, i, p, j⟩, by simp [arC], hm, hi, hp, hj⟩

set_option maxHeartbeats 1000000 in
theorem arps_big (cs : Array Value) (a : Ar) (A : Option Addr) (n c : Nat) (w : World) (_h : ArV cs a) (hn : 200 < n) (hm : n ≤ 9223372036854775807) :
    Calls Try.prog 5 #[.agg cs, .slice A n c] w fun e w' => e = .returned (.bool true) ∧ Below w.heap.size w w' := by
  have HB0 := Lib.hid ((Below.refl w.heap.size w).alloc (Nat.le_refl _) (.cells cs 44))
  go_enter Try.func5, Try.ntmps5
  go_wp2_with fail
  refine (lives_any _).mono ?_
  rintro e w1 ⟨rfl, hb1⟩
  have HB1 := Lib.hid (HB0.out.trans (hb1.mono HB0.out.size))
  clear hb1
  go_wp2_with fail
  refine (lives_any _).mono ?_
  rintro e w2 ⟨rfl, hb2⟩
  have HB := Lib.hid (HB1.out.trans (hb2.mono HB1.out.size))
  clear hb2
  go_wp2
  go_ret
  exact ⟨rfl, HB.out⟩

set_option maxRecDepth 100000 in
set_option maxHeartbeats 2000000 in
theorem arps_walk (cs : Array Value) (a : Ar) (A : Option Addr) (l : List UInt8) (n c : Nat) (w : World) (h : ArV cs a) (hl : l.length = n) (hn : n ≤ 200) (hr : Rd w 0 w.heap.size A (cells l)) (_hc : n ≤ c) (_hm : c ≤ maxLen) (hA : A = none → c = 0) :
    Calls Try.prog 5 #[.agg cs, .slice A n c] w fun e w' => e = .returned (.bool true) ∧ Below w.heap.size w w' := by
  obtain ⟨i0, hi0, hz0, hz1, hz2⟩ := info_parts info_u8
  have HF := Lib.hid h
  have HL := Lib.hid hl
  have HR := Lib.hid hr
  have HAN := Lib.hid hA
  have HS := Lib.hid h.size
  obtain ⟨r, hbr⟩ : ∃ r, buildA a = r := ⟨_, rfl⟩
  obtain ⟨BB, er⟩ := r
  have HBR := Lib.hid hbr
  obtain ⟨m, hbm⟩ : ∃ m, BB.length = m := ⟨_, rfl⟩
  have hm28 : m ≤ 28 := by
    have := build_short h.2
    rw [hbr] at this
    simp only at this
    omega
  have HMM := Lib.hid hbm
  have HB0 := Lib.hid ((Below.refl w.heap.size w).alloc (Nat.le_refl _) (.cells cs 44))
  have HG0 := Lib.hid (heap_alloc_new w (.cells cs 44))
  clear h hl hr _hc _hm hA hbr hbm
  go_enter Try.func5, Try.ntmps5
  go_wp2_with fail
  refine (lives_any _).mono ?_
  rintro e w1 ⟨rfl, hb1⟩
  have HX1 := Lib.hid ((hb1.block _ (row_lt HG0.out)).trans HG0.out)
  have HB1 := Lib.hid (HB0.out.trans (hb1.mono HB0.out.size))
  clear hb1
  go_wp2_with (refine wpList_load_row rfl 44 _ rfl w.heap.size rfl _ cs _ _ HX1.out Try.underlying44 rfl (size_ar HS.out) ?_)
  have hba := buildarp_any cs a w1 HF.out
  rw [HBR.out] at hba
  unfold OwnPost at hba
  simp only at hba
  rw [HMM.out] at hba
  refine hba.mono ?_
  rintro e w5 ⟨A5, c5, rfl, ho5, hb5⟩
  unfold OwnB at ho5
  rw [HMM.out] at ho5
  have HX5 := Lib.hid ((hb5.block _ (row_lt HX1.out)).trans HX1.out)
  have HB5 := Lib.hid (HB1.out.trans (hb5.mono HB1.out.size))
  have HO5 := Lib.hid ho5
  clear hb5 ho5 hba
  go_wp2_with (refine wpList_load_row rfl 44 _ rfl w.heap.size rfl _ cs _ _ HX5.out Try.underlying44 rfl (size_ar HS.out) ?_)
  have hra := refbuildarp_any cs a w5 HF.out
  rw [HBR.out] at hra
  simp only at hra
  refine hra.mono ?_
  rintro e w6 ⟨rfl, hb6⟩
  have HX6 := Lib.hid ((hb6.block _ (row_lt HX5.out)).trans HX5.out)
  have HB6 := Lib.hid (HB5.out.trans (hb6.mono HB5.out.size))
  have HO6 := Lib.hid (own_below HO5.out hb6 (Nat.le_refl _))
  have ht6 := run_text (P := Try.prog) w6 25 9 5 c5 Try.underlying25 Try.underlying5 Try.underlying9 (Rd.own HO6.out)
  rw [HMM.out] at ht6
  have HBW := Lib.hid (HB6.out.alloc HB6.out.size (.cells #[] 5))
  have HOWN : Hid ((w6.alloc (.cells #[] 5)).ownsRow w6.heap.size 5 1 (.slice (some ⟨w6.heap.size, 0, none⟩) 0 0) 0 []) := own_lit w6 [] 5 w6.heap.size w6.heap.size 0 rfl (Nat.le_refl _) (Nat.zero_le _) rfl
  have HR7 := Lib.hid ((Rd.own HO6.out).alloc (Nat.le_refl _) (.cells #[] 5))
  have HA5 : Hid (A5 = none → c5 = 0) := own_nil HO6.out
  have HW7 : Hid ((w6.alloc (.cells #[] 5)).heap.size = w6.heap.size + 1) := by show _ = _; simp
  have HLT : Hid (w.heap.size ≤ w6.heap.size) := HB6.out.size
  have HXW := Lib.hid (old_alloc HX6.out (.cells #[] 5))
  have HLX : Hid (w.heap.size < w6.heap.size) := row_lt HX6.out
  clear hb6 hra HX1 HX5 HB1 HB5 HO5 HO6
  go_wp2_with (first
    | (at_builtin; refine wpList_append_rd rfl _ _ 25 rfl w6.heap.size 5 i0 (.int .u8 0) 1 Try.underlying25 hi0 hz0 hz1 hz2 rfl (.slice (some ⟨w6.heap.size, 0, none⟩) 0 0) 0 [] rfl HOWN.out A5 m c5 (cells BB) rfl HA5.out (by rw [cells_length]; exact HMM.out) HR7.out (cells_one _) (by unfold maxLen; omega) (by omega) (by rw [HW7.out]; omega) ?_; intro v2 w7 hown2 hgrow2; rw [Nat.zero_add] at hown2; obtain ⟨A2, c2, rfl⟩ := own_form hown2; have hB7 := HBW.out.grown hgrow2 HBW.out.size (fun g hg => by simp [Value.ownBlock] at hg; have := HLT.out; omega); have HO7 := Lib.hid hown2; have HX7 := Lib.hid ((hgrow2.block _ (row_lt HXW.out) (by simp [Value.ownBlock]; have := HLX.out; omega)).trans HXW.out); have HB7 := Lib.hid hB7; have HZ7 : Hid (w6.heap.size ≤ w7.heap.size) := Nat.le_trans (by simp) hgrow2.size; clear hown2 hgrow2 hB7)
    | (at_builtin; refine wpList_append_rd rfl _ _ 25 rfl w6.heap.size 5 i0 (.int .u8 0) 1 Try.underlying25 hi0 hz0 hz1 hz2 rfl (.slice A2 m c2) m ([] ++ cells BB) rfl HO7.out A n c (cells l) rfl HAN.out (by rw [cells_length]; exact HL.out) (HR.out.below HB7.out (Nat.le_refl _)) (cells_one _) (by unfold maxLen; omega) (by omega) HZ7.out ?_; intro v3 w8 hown3 hgrow3; obtain ⟨A3, c3, rfl⟩ := own_form hown3))
  have hB8 := HB7.out.grown hgrow3 HB7.out.size (fun g hg => by have := (HO7.out.lt g hg).1; have := HLT.out; omega)
  have hX8 := (hgrow3.block _ (row_lt HX7.out) (fun e => by have := (HO7.out.lt _ e.symm).1; have := HLX.out; omega)).trans HX7.out
  have hr8 := Rd.own hown3
  rw [List.nil_append, ← cells_append] at hr8
  have hcap := own_cap hown3
  have hpa := parsearp_len A3 (BB ++ l) (m + n) c3 w6.heap.size w8.heap.size w8 (by rw [List.length_append, HMM.out, HL.out]) hr8 (Nat.le_refl _) (by omega) hcap.1 hcap.2
  have HB8 := Lib.hid hB8
  have HX8 := Lib.hid hX8
  clear hB8 hX8 hr8 hcap hown3 hgrow3 HB7 HX7 HO7 HZ7 ht6 HBW HOWN HR7 HA5 HW7 HXW HB6 HX6
  obtain ⟨r, hpr⟩ : ∃ r, parseA (BB ++ l) = r := ⟨_, rfl⟩
  obtain ⟨fd, gd⟩ := r
  have HPR := Lib.hid hpr
  rw [hpr] at hpa
  clear hpr
  refine hpa.mono ?_
  rintro e w9 ⟨ds, rfl, hd, hb9⟩
  simp only at hd
  have hB9 := HB8.out.trans (hb9.mono HB8.out.size)
  have HB9 := Lib.hid (hB9.alloc hB9.size (.cells ds 44))
  have HX9 := Lib.hid (old_alloc ((hb9.block _ (row_lt HX8.out)).trans HX8.out) (.cells ds 44))
  have HY9 := Lib.hid (heap_alloc_new w9 (.cells ds 44))
  have HS9 := Lib.hid hd.size
  have HO9 := Lib.hid hd.one
  have HD := Lib.hid hd
  clear hb9 hB9 hd hpa HB8 HX8
  by_cases hk : knownB a.o = true
  · have hbe : (BB, er) = (a.bytes, 0) := HBR.out.symm.trans (by unfold buildA; rw [if_pos hk])
    have hb1 : BB = a.bytes := congrArg Prod.fst hbe
    have hb2 : er = 0 := congrArg Prod.snd hbe
    have hpe : (fd, gd) = (a, 0) := HPR.out.symm.trans (by rw [hb1]; exact parse_bytes HF.out.2 hk l)
    have hp1 : fd = a := congrArg Prod.fst hpe
    have hp2 : gd = 0 := congrArg Prod.snd hpe
    have he := eq_arps 9997 ds cs a a (by have := HD.out; rwa [hp1] at this) HF.out true (arEq_self a)
    clear hbe hb1 hpe hp1 hk HD HPR HBR
    subst hb2
    subst hp2
    go_wp2_with (first | refine wpList_store_new rfl 44 _ _ rfl w9 #[.int .i64 0, .int .u8 0, .int .u8 0, .int .u8 0, .int .u8 0, .int .u8 0, .int .u8 0, .int .u8 0, .int .u8 0, .int .u8 0, .int .u8 0, .int .u8 0, .int .u8 0, .int .u8 0, .int .u8 0, .int .u8 0, .int .u8 0, .int .u8 0, .int .u8 0, .int .u8 0, .int .u8 0] ds rfl rfl (size_ar HS9.out) HS9.out.symm HO9.out ?_ | refine wpList_load_rowg rfl 44 _ rfl w9.heap.size rfl _ ds _ _ HY9.out Try.underlying44 rfl (size_ar HS9.out) ?_ | refine wpList_load_rowg rfl 44 _ rfl w.heap.size rfl _ cs _ _ HX9.out Try.underlying44 rfl (size_ar HS.out) ?_)
    go_ret
    exact ⟨rfl, HB9.out⟩
  · have hbe : (BB, er) = ([], 1) := HBR.out.symm.trans (by unfold buildA; rw [if_neg hk])
    have hb2 : er = 1 := congrArg Prod.snd hbe
    clear hbe hk HD HPR HBR
    subst hb2
    go_wp2_with (refine wpList_store_new rfl 44 _ _ rfl w9 #[.int .i64 0, .int .u8 0, .int .u8 0, .int .u8 0, .int .u8 0, .int .u8 0, .int .u8 0, .int .u8 0, .int .u8 0, .int .u8 0, .int .u8 0, .int .u8 0, .int .u8 0, .int .u8 0, .int .u8 0, .int .u8 0, .int .u8 0, .int .u8 0, .int .u8 0, .int .u8 0, .int .u8 0] ds rfl rfl (size_ar HS9.out) HS9.out.symm HO9.out ?_)
    go_ret
    exact ⟨rfl, HB9.out⟩
end Go.Proofs.Ytooepllgefndnaa
