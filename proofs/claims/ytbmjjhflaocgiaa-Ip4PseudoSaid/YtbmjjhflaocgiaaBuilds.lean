/-
  Ip4Builds returns true for every packet and every slice of bytes, and turns nothing that was there.
-/
import Derived.Test.YtbmjjhflaocgiaaLives
import Derived.Test.YtbmjjhflaocgiaaRefBuild
import Derived.Test.YtbmjjhflaocgiaaShape
namespace Go.Proofs.Ytbmjjhflaocgiaa
open Go.RowKit

/-- a packet, as the laws' frames tell of it -/
theorem pk_of_ok {w : World} {cs : List Value} (h : (Sh.cat (.num .u16) (.cat .bit (.cat (.num .i64) (.cat (.num .u8) (.cat (.num .u8) (.cat (.rep 4 (.num .u8)) (.cat (.rep 4 (.num .u8)) (.cat (.sl (.num .u8)) .non)))))))).ok w cs) : ∃ p : Pk, PkV w 0 w.heap.size cs.toArray p := by
  obtain ⟨c1, c2, rfl, ⟨id, rfl, hid⟩, c3, c4, rfl, ⟨mr, rfl⟩, c5, c6, rfl, ⟨off, rfl, hoff⟩, c7, c8, rfl, ⟨ttl, rfl, httl⟩, c9, c10, rfl, ⟨pr, rfl, hpr⟩, c11, c12, rfl, h11, c13, c14, rfl, h13, c15, c16, rfl, h15, rfl⟩ := h
  obtain ⟨s, hs, rfl⟩ := rep_bytes h11
  obtain ⟨d, hd, rfl⟩ := rep_bytes h13
  have hb : 0 ≤ id ∧ id ≤ 65535 := by
    simp [Lit.wf, IntKind.min, IntKind.max, IntKind.signed, IntKind.bits] at hid
    omega
  obtain ⟨idn, rfl⟩ := Int.eq_ofNat_of_zero_le hb.1
  have ht : 0 ≤ ttl ∧ ttl ≤ 255 := by
    simp [Lit.wf, IntKind.min, IntKind.max, IntKind.signed, IntKind.bits] at httl
    omega
  obtain ⟨tx, rfl⟩ : ∃ y : UInt8, ttl = (y.toNat : Int) := ⟨UInt8.ofNat ttl.toNat, by rw [u8_of]; omega⟩
  have hp : 0 ≤ pr ∧ pr ≤ 255 := by
    simp [Lit.wf, IntKind.min, IntKind.max, IntKind.signed, IntKind.bits] at hpr
    omega
  obtain ⟨px, rfl⟩ : ∃ y : UInt8, pr = (y.toNat : Int) := ⟨UInt8.ofNat pr.toNat, by rw [u8_of]; omega⟩
  have ho : -9223372036854775808 ≤ off ∧ off ≤ 9223372036854775807 := by
    simp [Lit.wf, IntKind.min, IntKind.max, IntKind.signed, IntKind.bits] at hoff
    omega
  obtain ⟨A, len, cap, rfl⟩ : ∃ A len cap, c15 = [.slice A len cap] := by
    rcases h15 with rfl | ⟨ad, len, cap, rfl, _⟩
    · exact ⟨none, 0, 0, rfl⟩
    · exact ⟨some ad, len, cap, rfl⟩
  obtain ⟨l, hl, hc, hm, hr, hA⟩ := sl_bytes h15
  refine ⟨⟨idn, mr, off, tx, px, s, d, l⟩, A, cap, ?_, ⟨by simp only; omega, hs, hd⟩, ho, hr, by simp only; omega, by unfold maxLen; omega, hA⟩
  simp [pkC, hl]

theorem own_nil {w : World} {base : Nat} {e : TypeId} {A : Option Addr} {n c : Nat} {xs : List Value} (h : w.ownsRow base e 1 (.slice A n c) n xs) : A = none → c = 0 := by
  rintro rfl
  rcases h.2 with ⟨he, _⟩ | ⟨g, cap, cur, he, _⟩
  · injection he
  · cases he

set_option maxRecDepth 100000 in
set_option maxHeartbeats 1000000 in
theorem builds_big (cs : Array Value) (p : Pk) (a1 : Option Addr) (n1 c1 : Nat) (w : World) (h : PkV w 0 w.heap.size cs p) (hm1 : n1 ≤ 9223372036854775807) (hn : 400 < p.data.length ∨ 100 < n1) :
    Calls Try.prog 3 #[.agg cs, .slice a1 n1 c1] w fun e w' => e = .returned (.bool true) ∧ Below w.heap.size w w' := by
  obtain ⟨A, c, _, _, h13, _, hlc, hm, _⟩ := h.parts
  obtain ⟨n, hbn⟩ : ∃ n, p.data.length = n := ⟨_, rfl⟩
  rw [hbn] at h13 hn hlc
  have hn2 : n ≤ 9223372036854775807 := by unfold maxLen at hm; omega
  have HB0 := Lib.hid ((Below.refl w.heap.size w).alloc (Nat.le_refl _) (.cells cs 27))
  have HG0 := Lib.hid (heap_alloc_new w (.cells cs 27))
  have H13 := Lib.hid h13
  clear h hbn hlc hm h13
  rcases (show 400 < n ∨ (n ≤ 400 ∧ 100 < n1) by omega) with hi | ⟨hi, hi2⟩
  all_goals
    clear hn
    go_enter Try.func3, Try.ntmps3
    go_wp2_with fail
    refine (lives_any _).mono ?_
    rintro e w1 ⟨rfl, hb1⟩
    have hc13 : w1.cell? ⟨w.heap.size, 13, none⟩ = some (.slice A n c) := by
      rw [cell_of_row _ _ _ _ _ _ ((hb1.block _ (row_lt HG0.out)).trans HG0.out)]
      exact H13.out
    have HB1 := Lib.hid (HB0.out.trans (hb1.mono HB0.out.size))
    clear hb1
    go_wp2_with fail
    refine (lives_any _).mono ?_
    rintro e w2 ⟨rfl, hb2⟩
    have HB := Lib.hid (HB1.out.trans (hb2.mono HB1.out.size))
    clear hb2
    go_wp2
    go_ret
    exact ⟨rfl, HB.out⟩

set_option maxRecDepth 100000 in
set_option maxHeartbeats 4000000 in
theorem builds_walk (cs : Array Value) (p : Pk) (a1 : Option Addr) (l : List UInt8) (n1 c1 : Nat) (w : World) (h : PkV w 0 w.heap.size cs p) (hn : p.data.length ≤ 400) (hl : l.length = n1) (hn1 : n1 ≤ 100) (hr1 : Rd w 0 w.heap.size a1 (cells l)) (ha1 : a1 = none → c1 = 0) :
    Calls Try.prog 3 #[.agg cs, .slice a1 n1 c1] w fun e w' => e = .returned (.bool true) ∧ Below w.heap.size w w' := by
  obtain ⟨i0, hi0, hz0, hz1, hz2⟩ := info_parts info_u8
  obtain ⟨A, c, _, _, h13, _, hlc, hm, _⟩ := h.parts
  obtain ⟨n, hbn⟩ : ∃ n, p.data.length = n := ⟨_, rfl⟩
  rw [hbn] at h13 hn hlc
  have HF := Lib.hid h
  have HBN := Lib.hid hbn
  have HS := Lib.hid h.size
  have HL1 := Lib.hid hl
  have HR1 := Lib.hid hr1
  have HA1 := Lib.hid ha1
  have HB0 := Lib.hid ((Below.refl w.heap.size w).alloc (Nat.le_refl _) (.cells cs 27))
  have HG0 := Lib.hid (heap_alloc_new w (.cells cs 27))
  have H13 := Lib.hid h13
  clear h hbn hlc hm h13 hl hr1 ha1
  go_enter Try.func3, Try.ntmps3
  go_wp2_with fail
  refine (lives_any _).mono ?_
  rintro e w1 ⟨rfl, hb1⟩
  have HX1 := Lib.hid ((hb1.block _ (row_lt HG0.out)).trans HG0.out)
  have HB1 := Lib.hid (HB0.out.trans (hb1.mono HB0.out.size))
  have hc13 : w1.cell? ⟨w.heap.size, 13, none⟩ = some (.slice A n c) := by
    rw [cell_of_row _ _ _ _ _ _ HX1.out]
    exact H13.out
  clear hb1
  go_wp2_with (refine wpList_load_row rfl 27 _ rfl w.heap.size rfl _ cs _ _ HX1.out Try.underlying27 rfl (size_pk HS.out) ?_)
  clear hc13
  refine (build_any cs p w1 0 w.heap.size (HF.out.below HB1.out (Nat.le_refl _)) HB1.out.size).mono ?_
  rintro e w5 ⟨A5, c5, rfl, ho5, hb5⟩
  have HB5 := Lib.hid (HB1.out.trans (hb5.mono HB1.out.size))
  have HX5 := Lib.hid ((hb5.block _ (row_lt HX1.out)).trans HX1.out)
  have HO5 := Lib.hid ho5
  have HS5 : Hid (w.heap.size ≤ w1.heap.size ∧ w1.heap.size ≤ w5.heap.size) := ⟨HB1.out.size, hb5.size⟩
  clear hb5 ho5
  go_wp2_with (refine wpList_load_row rfl 27 _ rfl w.heap.size rfl _ cs _ _ HX5.out Try.underlying27 rfl (size_pk HS.out) ?_)
  refine (refbuild_any cs p w5 0 w.heap.size (HF.out.below HB5.out (Nat.le_refl _)) HB5.out.size).mono ?_
  rintro e w6 ⟨rfl, hb6⟩
  have HB6 := Lib.hid (HB5.out.trans (hb6.mono HB5.out.size))
  have HX6 := Lib.hid ((hb6.block _ (row_lt HX5.out)).trans HX5.out)
  have ho6 := own_below HO5.out hb6 (Nat.le_refl _)
  have HZ6 : Hid (w.heap.size ≤ w1.heap.size ∧ w1.heap.size ≤ w6.heap.size) := ⟨HS5.out.1, Nat.le_trans HS5.out.2 hb6.size⟩
  have ht6 := run_text (P := Try.prog) w6 25 9 5 c5 Try.underlying25 Try.underlying5 Try.underlying9 (Rd.own ho6)
  obtain ⟨bs, hbs⟩ : ∃ bs, (buildP p).1 = bs := ⟨_, rfl⟩
  obtain ⟨z, hz⟩ : ∃ z, (buildP p).2 = z := ⟨_, rfl⟩
  have hcase : (z = 0 ∧ bs = p.bytes ∧ placedB p = true ∧ p.data.length ≤ 180) ∨ (z ≠ 0 ∧ bs = []) := by
    rw [← hbs, ← hz]
    unfold buildP
    by_cases q1 : placedB p = true
    · rw [if_pos q1]
      by_cases q2 : 180 < p.data.length
      · rw [if_pos q2]; exact .inr ⟨by simp, rfl⟩
      · rw [if_neg q2]; exact .inl ⟨rfl, rfl, q1, by omega⟩
    · rw [if_neg q1]; exact .inr ⟨by simp, rfl⟩
  have hbl : bs.length ≤ 200 := by
    rcases hcase with ⟨_, rfl, _, h2⟩ | ⟨_, rfl⟩
    · rw [bytes_length HF.out.ok]; omega
    · simp
  rw [hbs] at ht6 ho6 ⊢
  rw [hz]
  obtain ⟨m, hmv⟩ : ∃ m, bs.length = m := ⟨_, rfl⟩
  rw [hmv] at ht6 ho6 hbl ⊢
  have HO6 := Lib.hid ho6
  have HMV := Lib.hid hmv
  have HCS := Lib.hid hcase
  have hpars : (parseP (bs ++ l)) = (p, 0) ∨ z ≠ 0 := by
    rcases hcase with ⟨_, rfl, h1, h2⟩ | ⟨h1, _⟩
    · exact .inl (parse_bytes HF.out.ok h1 h2 l)
    · exact .inr h1
  have HPR := Lib.hid hpars
  have HLN : Hid ((bs ++ l).length = m + n1) := by show _ = _; rw [List.length_append, HMV.out, HL1.out]
  clear hb6 ho6 hbs hz hcase hmv hpars HB5 HX5 HO5 HS5 HX1 HB1 HG0 HB0
  go_wp2_with (first
    | (at_builtin; refine wpList_append_rd rfl (.tmp 45) (.tmp 46) 25 rfl w6.heap.size 5 i0 (.int .u8 0) 1 Try.underlying25 hi0 hz0 hz1 hz2 rfl _ _ _ rfl (own_lit _ [] _ _ w6.heap.size 0 (by simp) (by simp) (by unfold maxLen; omega) rfl) A5 m c5 (cells bs) rfl (own_nil HO6.out) (by rw [cells_length]; exact HMV.out) ((Rd.own HO6.out).alloc (Nat.le_refl _) _) (cells_one bs) (by unfold maxLen; omega) (by omega) (by simp) ?_))
  intro v7 w7 hown7 hgrow7
  have HB7 : Hid (Below w.heap.size w w7) := (HB6.out.alloc HB6.out.size _).grown hgrow7 (by simp; have := HZ6.out; omega) fun g hg => by simp [Value.ownBlock] at hg; have := HZ6.out; omega
  have HX7 := Lib.hid ((hgrow7.block w.heap.size (by simp; have := row_lt HX6.out; omega) (by simp [Value.ownBlock]; have := row_lt HX6.out; omega)).trans (old_alloc HX6.out _))
  have HR7 := Lib.hid (HR1.out.below HB7.out (Nat.le_refl _))
  have HZ7 : Hid (w6.heap.size ≤ w7.heap.size ∧ w.heap.size < w6.heap.size) := ⟨by have := hgrow7.size; simp at this; omega, row_lt HX6.out⟩
  (try simp only [Nat.zero_add, List.nil_append] at hown7)
  have HW7 := Lib.hid hown7
  clear hgrow7 hown7 ht6
  go_wp2_with (first
    | (at_builtin; refine wpList_append_rd rfl (.tmp 47) (.tmp 48) 25 rfl w6.heap.size 5 i0 (.int .u8 0) 1 Try.underlying25 hi0 hz0 hz1 hz2 rfl _ _ _ rfl HW7.out a1 n1 c1 (cells l) rfl HA1.out (by rw [cells_length]; exact HL1.out) HR7.out (cells_one l) (by unfold maxLen; omega) (by omega) HZ7.out.1 ?_))
  intro v8 w8 hown8 hgrow8
  have HB8 : Hid (Below w.heap.size w w8) := HB7.out.grown hgrow8 HB7.out.size fun g hg => by have := (HW7.out.lt g hg).1; have := HZ7.out.2; omega
  have HX8 := Lib.hid ((hgrow8.block w.heap.size (row_lt HX7.out) (fun e => by have := (HW7.out.lt _ e.symm).1; have := HZ7.out.2; omega)).trans HX7.out)
  rw [← cells_append] at hown8
  obtain ⟨A8, c8, rfl⟩ := own_form hown8
  have HW8 := Lib.hid hown8
  have hml : m + n1 ≤ 300 := by omega
  clear hgrow8 hown8 HX7 HB7 HR7 HW7 HZ6
  go_wp2_with fail
  have hp := parse_len A8 (bs ++ l) (m + n1) c8 w8.heap.size w8 HLN.out ((Rd.own HW8.out).wide (Nat.zero_le _) (Nat.le_refl _)) (Nat.le_refl _) (own_cap HW8.out).1 (by omega) (own_cap HW8.out).2
  rcases HCS.out with ⟨hz0', _⟩ | ⟨hz0', _⟩
  · have hpe := HPR.out.resolve_right (fun h => h hz0')
    rw [hpe] at hp
    subst hz0'
    clear hpe HPR HCS
    refine hp.mono ?_
    rintro e w9 ⟨ds, rfl, hv9, hb9⟩
    have hB9 := HB8.out.trans (hb9.mono HB8.out.size)
    have HB9 := Lib.hid (hB9.alloc hB9.size (.cells ds 27))
    have HX9 := Lib.hid (old_alloc ((hb9.block _ (row_lt HX8.out)).trans HX8.out) (.cells ds 27))
    have HY9 := Lib.hid (heap_alloc_new w9 (.cells ds 27))
    have HS9 := Lib.hid hv9.size
    have HO9 := Lib.hid hv9.one
    have HG9 := Lib.hid (hv9.alloc (Nat.le_refl _) (.cells ds 27))
    have HZ9 : Hid (w9.heap.size ≤ (w9.alloc (.cells ds 27)).heap.size ∧ w.heap.size ≤ (w9.alloc (.cells ds 27)).heap.size) := by
      have := hB9.size
      refine ⟨?_, ?_⟩ <;> simp <;> omega
    clear hp hv9 hb9 hB9 HB8 HX8
    go_wp2_with (first | refine wpList_store_new rfl 27 _ _ rfl w9 #[.int .u16 0, .bool false, .int .i64 0, .int .u8 0, .int .u8 0, .int .u8 0, .int .u8 0, .int .u8 0, .int .u8 0, .int .u8 0, .int .u8 0, .int .u8 0, .int .u8 0, .slice none 0 0] ds rfl rfl (size_pk HS9.out) HS9.out.symm HO9.out ?_ | refine wpList_load_rowg rfl 27 _ rfl w9.heap.size rfl _ ds _ _ HY9.out Try.underlying27 rfl (size_pk HS9.out) ?_ | refine wpList_load_rowg rfl 27 _ rfl w.heap.size rfl _ cs _ _ HX9.out Try.underlying27 rfl (size_pk HS.out) ?_)
    refine (same_any ds cs p p _ _ _ _ _ HG9.out (HF.out.below HB9.out (Nat.le_refl _)) HZ9.out.1 HZ9.out.2).mono ?_
    rintro e wa ⟨rfl, hba⟩
    rw [pkEq_self]
    have HBa := Lib.hid (HB9.out.trans (hba.mono HB9.out.size))
    clear hba
    go_wp2
    go_ret
    exact ⟨rfl, HBa.out⟩
  · have hne : (z != 0) = true := bneT hz0'
    clear hz0' HPR HCS
    refine hp.mono ?_
    rintro e w9 ⟨ds, rfl, hv9, hb9⟩
    have hB9 := HB8.out.trans (hb9.mono HB8.out.size)
    have HB9 := Lib.hid (hB9.alloc hB9.size (.cells ds 27))
    have HS9 := Lib.hid hv9.size
    have HO9 := Lib.hid hv9.one
    clear hp hv9 hb9 hB9 HB8 HX8
    go_wp2_with (refine wpList_store_new rfl 27 _ _ rfl w9 #[.int .u16 0, .bool false, .int .i64 0, .int .u8 0, .int .u8 0, .int .u8 0, .int .u8 0, .int .u8 0, .int .u8 0, .int .u8 0, .int .u8 0, .int .u8 0, .int .u8 0, .slice none 0 0] ds rfl rfl (size_pk HS9.out) HS9.out.symm HO9.out ?_)
    go_ret
    exact ⟨rfl, HB9.out⟩

theorem builds_any (cs : List Value) (p : Pk) (a1 : Option Addr) (l : List UInt8) (n1 c1 : Nat) (w : World) (h : PkV w 0 w.heap.size cs.toArray p) (hl : l.length = n1) (hr1 : Rd w 0 w.heap.size a1 (cells l)) (hc1 : n1 ≤ c1) (hm1 : c1 ≤ 140737488351232) (ha1 : a1 = none → c1 = 0) :
    Calls Try.prog 3 #[.agg cs.toArray, .slice a1 n1 c1] w fun e w' => e = .returned (.bool true) ∧ Below w.heap.size w w' := by
  by_cases hb : 400 < p.data.length ∨ 100 < n1
  · exact builds_big cs.toArray p a1 n1 c1 w h (by omega) hb
  · exact builds_walk cs.toArray p a1 l n1 c1 w h (by omega) hl (by omega) hr1 ha1
end Go.Proofs.Ytbmjjhflaocgiaa
