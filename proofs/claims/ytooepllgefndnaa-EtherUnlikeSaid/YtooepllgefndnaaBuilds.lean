/-
  EtherBuilds returns true for every frame, and turns nothing that was there.
-/
import Derived.Test.YtooepllgefndnaaLives
import Derived.Test.YtooepllgefndnaaRefBuild
import Derived.Test.YtooepllgefndnaaParses
import Derived.Test.YtooepllgefndnaaShape
namespace Go.Proofs.Ytooepllgefndnaa
open Go.RowKit

/-- a frame, as the laws' frames tell of it -/
theorem fr_of_ok {w : World} {cs : List Value} (h : (Sh.cat (.rep 6 (.num .u8)) (.cat (.rep 6 (.num .u8)) (.cat (.num .u16) (.cat (.sl (.num .u8)) .non)))).ok w cs) : ∃ f : Fr, FrV w 0 w.heap.size cs.toArray f := by
  obtain ⟨c1, c2, rfl, h1, c3, c4, rfl, h2, c5, c6, rfl, ⟨n, rfl, hn⟩, c7, c8, rfl, h7, rfl⟩ := h
  obtain ⟨d, hd, rfl⟩ := rep_bytes h1
  obtain ⟨s, hs, rfl⟩ := rep_bytes h2
  have hb : 0 ≤ n ∧ n ≤ 65535 := by
    simp [Lit.wf, IntKind.min, IntKind.max, IntKind.signed, IntKind.bits] at hn
    omega
  obtain ⟨t, rfl⟩ := Int.eq_ofNat_of_zero_le hb.1
  obtain ⟨A, len, cap, rfl⟩ : ∃ A len cap, c7 = [.slice A len cap] := by
    rcases h7 with rfl | ⟨ad, len, cap, rfl, _⟩
    · exact ⟨none, 0, 0, rfl⟩
    · exact ⟨some ad, len, cap, rfl⟩
  obtain ⟨l, hl, hc, hm, hr, hA⟩ := sl_bytes h7
  refine ⟨⟨d, s, t, l⟩, A, cap, ?_, ⟨hd, hs, by simp only; omega⟩, hr, by simp only; omega, by unfold maxLen; omega, hA⟩
  simp [frC, hl]

set_option maxRecDepth 100000 in
set_option maxHeartbeats 1000000 in
theorem builds_big (cs : Array Value) (f : Fr) (w : World) (h : FrV w 0 w.heap.size cs f) (hn : 400 < f.b.length) :
    Calls Try.prog 3 #[.agg cs] w fun e w' => e = .returned (.bool true) ∧ Below w.heap.size w w' := by
  obtain ⟨A, c, _, h13, _, hlc, hm, _⟩ := h.parts
  obtain ⟨n, hbn⟩ : ∃ n, f.b.length = n := ⟨_, rfl⟩
  rw [hbn] at h13 hn hlc
  have hn2 : n ≤ 9223372036854775807 := by unfold maxLen at hm; omega
  have HB0 := Lib.hid ((Below.refl w.heap.size w).alloc (Nat.le_refl _) (.cells cs 27))
  have HG0 := Lib.hid (heap_alloc_new w (.cells cs 27))
  have H13 := Lib.hid h13
  clear h hbn hlc hm h13
  go_enter Try.func3, Try.ntmps3
  go_wp2_with fail
  refine (lives_any _).mono ?_
  rintro e w1 ⟨rfl, hb1⟩
  have hc13 : w1.cell? ⟨w.heap.size, 13, none⟩ = some (.slice A n c) := by
    rw [cell_of_row _ _ _ _ _ _ ((hb1.block _ (row_lt HG0.out)).trans HG0.out)]
    exact H13.out
  have HB1 := Lib.hid (HB0.out.trans (hb1.mono HB0.out.size))
  clear hb1
  go_wp2_with fail
  refine (lives_any _).mono ?_
  rintro e w2 ⟨rfl, hb2⟩
  have HB := Lib.hid (HB1.out.trans (hb2.mono HB1.out.size))
  clear hb2
  go_wp2
  go_ret
  exact ⟨rfl, HB.out⟩

theorem FrV.grown {w w' : World} {lo hi : Nat} {cs : Array Value} {f : Fr} {row : Option Nat} (h : FrV w lo hi cs f) (hg : w.grownBy w' row) (hB : hi ≤ w.heap.size) (hr : ∀ g, row = some g → g < lo ∨ hi ≤ g) : FrV w' lo hi cs f := by
  obtain ⟨A, c, e, h1, h2, h3⟩ := h
  exact ⟨A, c, e, h1, h2.grown hg hB hr, h3⟩
/-- a frame with another body of the same bytes -/
theorem FrV.body {w w' : World} {lo hi lo' hi' : Nat} {cs : Array Value} {f : Fr} {A : Option Addr} {c : Nat} (h : FrV w lo hi cs f) (hr : Rd w' lo' hi' A (cells f.b)) (hc : f.b.length ≤ c) (hm : c ≤ maxLen) (hA : A = none → c = 0) : FrV w' lo' hi' (cs.setIfInBounds 13 (.slice A f.b.length c)) f := by
  obtain ⟨A0, c0, rfl, hok, _⟩ := h
  refine ⟨A, c, ?_, hok, hr, hc, hm, hA⟩
  have h1 : (cells f.d ++ cells f.s).length = 12 := by simp [cells_length, hok.1, hok.2.1]
  simp only [frC, List.setIfInBounds_toArray]
  congr 1
  rw [List.set_append_right _ _ (by omega), h1]
  rfl

/-- the row's bytes have been turned, nothing else -/
def Turned (w8 wr : World) (B g m c : Nat) : Prop := ∃ bs : List UInt8, bs.length = m ∧ wr.ownsRow B 5 1 (.slice (some ⟨g, 0, none⟩) m c) m (cells bs) ∧ w8.grownBy wr (some g)
theorem Turned.step {w8 wr : World} {B g m c k : Nat} {bs : List UInt8} (h1 : bs.length = m) (h2 : wr.ownsRow B 5 1 (.slice (some ⟨g, 0, none⟩) m c) m (cells bs)) (h3 : w8.grownBy wr (some g)) (_hk : k < m) (z : Int) (hz : 0 ≤ z ∧ z < 256) : Turned w8 (wr.setCell ⟨g, k, none⟩ (.int .u8 z)) B g m c := by
  obtain ⟨y, rfl⟩ := Int.eq_ofNat_of_zero_le hz.1
  have hs := h2.stored k (.int .u8 (y : Int))
  refine ⟨bs.set k (UInt8.ofNat y), by simp [h1], ?_, h3.trans hs.2⟩
  have e : (cells bs).set k (.int .u8 (y : Int)) = cells (bs.set k (UInt8.ofNat y)) := by
    unfold cells
    rw [List.map_set]
    congr 1
    rw [UInt8.toNat_ofNat', Nat.mod_eq_of_lt (by omega)]
  rw [← e]
  exact hs.1

set_option maxRecDepth 100000 in
set_option maxHeartbeats 2000000 in
theorem builds_walk (cs : Array Value) (f : Fr) (w : World) (h : FrV w 0 w.heap.size cs f) (hn : f.b.length ≤ 400) :
    Calls Try.prog 3 #[.agg cs] w fun e w' => e = .returned (.bool true) ∧ Below w.heap.size w w' := by
  obtain ⟨i0, hi0, hz0, hz1, hz2⟩ := info_parts info_u8
  obtain ⟨A, c, _, h13, hrd, hlc, hm, hA⟩ := h.parts
  obtain ⟨n, hbn⟩ : ∃ n, f.b.length = n := ⟨_, rfl⟩
  rw [hbn] at h13 hn hlc
  have HF := Lib.hid h
  have HBN := Lib.hid hbn
  have HS := Lib.hid h.size
  have HO := Lib.hid h.one
  have HR := Lib.hid hrd
  have HAN := Lib.hid hA
  have HM := Lib.hid hm
  have HLC := Lib.hid hlc
  have HB0 := Lib.hid ((Below.refl w.heap.size w).alloc (Nat.le_refl _) (.cells cs 27))
  have HG0 := Lib.hid (heap_alloc_new w (.cells cs 27))
  have H13 := Lib.hid h13
  clear h hbn hlc hm h13 hrd hA
  go_enter Try.func3, Try.ntmps3
  go_wp2_with fail
  refine (lives_any _).mono ?_
  rintro e w1 ⟨rfl, hb1⟩
  have HX1 := Lib.hid ((hb1.block _ (row_lt HG0.out)).trans HG0.out)
  have HB1 := Lib.hid (HB0.out.trans (hb1.mono HB0.out.size))
  have hc13 : w1.cell? ⟨w.heap.size, 13, none⟩ = some (.slice A n c) := by
    rw [cell_of_row _ _ _ _ _ _ HX1.out]
    exact H13.out
  have hb13 : ((w1.alloc (.cells cs 27)).alloc (.cells #[] 5)).cell? ⟨w.heap.size, 13, none⟩ = some (.slice A n c) := by
    rw [cell_of_row _ _ _ _ _ _ (old_alloc (old_alloc HX1.out _) _)]
    exact H13.out
  have HLT : Hid (w.heap.size < w1.heap.size) := row_lt HX1.out
  have HW2 : Hid (((w1.alloc (.cells cs 27)).alloc (.cells #[] 5)).heap.size = w1.heap.size + 2) := by show _ = _; simp
  have HBB2 := Lib.hid ((HB1.out.alloc HB1.out.size (.cells cs 27)).alloc ((HB1.out.alloc HB1.out.size (.cells cs 27)).size) (.cells #[] 5))
  have HOWN : Hid (((w1.alloc (.cells cs 27)).alloc (.cells #[] 5)).ownsRow (w1.heap.size + 1) 5 1 (.slice (some ⟨w1.heap.size + 1, 0, none⟩) 0 0) 0 []) := own_lit (w1.alloc (.cells cs 27)) [] 5 (w1.heap.size + 1) (w1.heap.size + 1) 0 (by simp) (by simp) (Nat.zero_le _) rfl
  have HR2 := Lib.hid (HR.out.below HBB2.out (Nat.le_refl _))
  have HXW2 : Hid (((w1.alloc (.cells cs 27)).alloc (.cells #[] 5)).heap[w1.heap.size]? = some (.cells cs 27)) := old_alloc (heap_alloc_new w1 _) _
  have HXG2 := Lib.hid (old_alloc (old_alloc HX1.out (.cells cs 27)) (.cells #[] 5))
  clear hb1
  go_wp2_with (first
    | refine wpList_load_row rfl 27 _ rfl w.heap.size rfl _ cs _ _ HX1.out Try.underlying27 rfl (size_fr HS.out) ?_
    | refine wpList_store_new rfl 27 _ _ rfl w1 #[.int .u8 0, .int .u8 0, .int .u8 0, .int .u8 0, .int .u8 0, .int .u8 0, .int .u8 0, .int .u8 0, .int .u8 0, .int .u8 0, .int .u8 0, .int .u8 0, .int .u16 0, .slice none 0 0] cs rfl rfl (size_fr HS.out) HS.out.symm HO.out ?_
    | (at_builtin; refine wpList_append_rd rfl _ _ 25 rfl (w1.heap.size + 1) 5 i0 (.int .u8 0) 1 Try.underlying25 hi0 hz0 hz1 hz2 rfl (.slice (some ⟨w1.heap.size + 1, 0, none⟩) 0 0) 0 [] rfl HOWN.out A n c (cells f.b) rfl HAN.out (by rw [cells_length]; exact HBN.out) HR2.out (cells_one _) (by unfold maxLen; omega) (by omega) (by rw [HW2.out]; omega) ?_; intro v2 w3 hown2 hgrow2; rw [Nat.zero_add] at hown2; obtain ⟨A2, c2, rfl⟩ := own_form hown2; have hx3 := (hgrow2.block w1.heap.size (row_lt HXW2.out) (by simp [Value.ownBlock])).trans HXW2.out; have hs1 : w3.cell? ⟨w1.heap.size, 13, none⟩ = some (.slice A n c) := (cell_of_row _ _ _ _ _ _ hx3).trans H13.out; have hs2 : w3.frozen? ⟨w1.heap.size, 13, none⟩ = false := frozen_of_row _ _ _ _ _ hx3; have HX3 := Lib.hid (heap_setCell_same w3 w1.heap.size 13 cs 27 (.slice A2 n c2) hx3))
    | refine wpList_load_row rfl 27 _ rfl w1.heap.size rfl _ _ _ _ HX3.out Try.underlying27 rfl (size_fr ((Array.size_setIfInBounds ..).trans HS.out)) ?_)
  have hg3 : w3.grownBy (w3.setCell ⟨w1.heap.size, 13, none⟩ (.slice A2 n c2)) (some w1.heap.size) := ⟨rfl, rfl, rfl, by simp, fun k _ hk => heap_setCell_other w3 _ k _ (fun e => hk (by simp [e]))⟩
  have hB3 := (HBB2.out.grown hgrow2 HBB2.out.size (fun g hg => by simp [Value.ownBlock] at hg; have := HLT.out; omega)).setCell (p := ⟨w1.heap.size, 13, none⟩) (Nat.le_of_lt HLT.out) (.slice A2 n c2)
  have HB3 := Lib.hid hB3
  have hcap := own_cap hown2
  have hr3 : Rd (w3.setCell ⟨w1.heap.size, 13, none⟩ (.slice A2 n c2)) (w1.heap.size + 1) w3.heap.size A2 (cells f.b) := (Rd.own hown2).grown hg3 (Nat.le_refl _) (fun g hg => by simp at hg; omega)
  have hz3 : w1.heap.size + 2 ≤ w3.heap.size := by have := hgrow2.size; rw [HW2.out] at this; exact this
  have hf3 := HF.out.body hr3 (by rw [HBN.out]; exact hcap.1) hcap.2 (own_nil hown2)
  rw [HBN.out] at hf3
  have HF3 := Lib.hid hf3
  have HXA := Lib.hid ((heap_setCell_other w3 ⟨w1.heap.size, 13, none⟩ w.heap.size (.slice A2 n c2) (Nat.ne_of_lt HLT.out)).trans ((hgrow2.block w.heap.size (row_lt HXG2.out) (by simp [Value.ownBlock]; have := HLT.out; omega)).trans HXG2.out))
  have HXB := Lib.hid HX3.out
  have HZ3 : Hid (w1.heap.size + 2 ≤ w3.heap.size ∧ (w3.setCell ⟨w1.heap.size, 13, none⟩ (.slice A2 n c2)).heap.size = w3.heap.size) := ⟨hz3, by simp⟩
  clear hc13 hb13 HOWN HR2 HXW2 HXG2 HBB2 HX1 HX3 hx3 hs1 hs2 hown2 hgrow2 hg3 hB3 hcap hr3 hz3 hf3 HW2
  generalize w3.setCell ⟨w1.heap.size, 13, none⟩ (.slice A2 n c2) = w4 at HB3 HF3 HXA HXB HZ3 ⊢
  refine (build_any (cs.setIfInBounds 13 (.slice A2 n c2)) f w4 (w1.heap.size + 1) w3.heap.size HF3.out (by rw [HZ3.out.2]; exact Nat.le_refl _)).mono ?_
  rintro e w5 ⟨A5, c5, rfl, ho5, hb5⟩
  have HB5 := Lib.hid (HB3.out.trans (hb5.mono HB3.out.size))
  have HX5 := Lib.hid ((hb5.block _ (row_lt HXA.out)).trans HXA.out)
  have HY5 := Lib.hid ((hb5.block _ (row_lt HXB.out)).trans HXB.out)
  have HF5 := Lib.hid (HF3.out.below hb5 (by rw [HZ3.out.2]; exact Nat.le_refl _))
  have HO5 := Lib.hid ho5
  have HS5 : Hid (w4.heap.size ≤ w5.heap.size) := hb5.size
  clear hb5 ho5
  go_wp2_with (refine wpList_load_row rfl 27 _ rfl w.heap.size rfl _ cs _ _ HX5.out Try.underlying27 rfl (size_fr HS.out) ?_)
  refine (refbuild_any cs f w5 0 w.heap.size (HF.out.below HB5.out (Nat.le_refl _)) HB5.out.size).mono ?_
  rintro e w6 ⟨rfl, hb6⟩
  have HB6 := Lib.hid (HB5.out.trans (hb6.mono HB5.out.size))
  have HX6 := Lib.hid ((hb6.block _ (row_lt HX5.out)).trans HX5.out)
  have HY6 := Lib.hid ((hb6.block _ (row_lt HY5.out)).trans HY5.out)
  have HO6 := Lib.hid (own_below HO5.out hb6 (Nat.le_refl _))
  have HF6 := Lib.hid (HF5.out.below hb6 (by have := HS5.out; have := HZ3.out.2; omega))
  have HS6 : Hid (w4.heap.size ≤ w6.heap.size) := Nat.le_trans HS5.out hb6.size
  have ht6 := run_text (P := Try.prog) w6 25 9 5 c5 Try.underlying25 Try.underlying5 Try.underlying9 (Rd.own HO6.out)
  have HOB : Hid (OwnB w6 w4.heap.size (.slice A5 (buildS f).1.length c5) (buildS f).1) := HO6.out
  clear HB5 HX5 HY5 HF5 HO5 HO6 hb6 HB3 HXA HXB HF3 HS5
  by_cases h2 : 200 < n
  · have HE := Lib.hid (show buildS f = ([], 4) by unfold buildS; rw [HBN.out, if_pos h2])
    rw [HE.out] at ht6 ⊢
    simp only [List.length_nil] at ht6 ⊢
    clear HOB
    go_wp2
    go_ret
    exact ⟨rfl, HB6.out⟩
  · have HE := Lib.hid (show buildS f = (f.bytes, 0) by unfold buildS; rw [HBN.out, if_neg h2])
    have HPB := Lib.hid (parse_build HF.out.ok (by rw [HBN.out]; exact h2))
    have HLB := Lib.hid ((Fr.bytes_length HF.out.ok).trans (by rw [HBN.out]))
    rw [HE.out] at ht6 HOB HPB ⊢
    obtain ⟨BB, hBB⟩ : ∃ BB, f.bytes = BB := ⟨_, rfl⟩
    rw [hBB] at ht6 HOB HPB HLB ⊢
    obtain ⟨m, hm⟩ : ∃ m, BB.length = m := ⟨_, rfl⟩
    unfold OwnB at HOB
    simp only at HOB HPB ht6 ⊢
    rw [hm] at ht6 HOB HLB ⊢
    have hm2 : m ≤ 214 := by have := HLB.out; omega
    have HMM := Lib.hid hm
    clear hBB hm HE h2
    go_wp2_with fail
    have hp := parse_len A5 BB m c5 w4.heap.size w6.heap.size w6 HMM.out (Rd.own HOB.out) (Nat.le_refl _) (own_cap HOB.out).1 (own_cap HOB.out).2
    rw [HPB.out] at hp
    refine hp.mono ?_
    rintro e w7 ⟨ds, rfl, hf7, hb7⟩
    have HS7 := Lib.hid hf7.size
    have HO7 := Lib.hid hf7.one
    clear ht6 hp
    have HF8 := Lib.hid (hf7.alloc (Nat.le_refl _) (.cells ds 27))
    have HB8 := Lib.hid ((HB6.out.trans (hb7.mono HB6.out.size)).alloc ((HB6.out.trans (hb7.mono HB6.out.size)).size) (.cells ds 27))
    have HX8 := Lib.hid (old_alloc ((hb7.block _ (row_lt HX6.out)).trans HX6.out) (.cells ds 27))
    have HY8 := Lib.hid (old_alloc ((hb7.block _ (row_lt HY6.out)).trans HY6.out) (.cells ds 27))
    have HZ8 := Lib.hid (heap_alloc_new w7 (.cells ds 27))
    have HG8 := Lib.hid ((HF6.out.below hb7 (by have := HS6.out; have := HZ3.out.2; omega)).alloc (by have := HS6.out; have := HZ3.out.2; have := hb7.size; omega) (.cells ds 27))
    have HC8 := Lib.hid (HF.out.below HB8.out (Nat.le_refl _))
    have HOW6 := Lib.hid HOB
    have HOW8 := Lib.hid ((own_below HOB.out hb7 (Nat.le_refl _)).alloc (.cells ds 27))
    have HN8 : Hid ((w7.alloc (.cells ds 27)).heap.size = w7.heap.size + 1 ∧ w6.heap.size ≤ w7.heap.size) := ⟨by simp, hb7.size⟩
    clear hf7 hb7 HOB HX6 HY6 HF6 HB6
    go_wp2_with (refine wpList_store_new rfl 27 _ _ rfl w7 #[.int .u8 0, .int .u8 0, .int .u8 0, .int .u8 0, .int .u8 0, .int .u8 0, .int .u8 0, .int .u8 0, .int .u8 0, .int .u8 0, .int .u8 0, .int .u8 0, .int .u16 0, .slice none 0 0] ds rfl rfl (size_fr HS7.out) HS7.out.symm HO7.out ?_)
    generalize w7.alloc (.cells ds 27) = w8 at HF8 HB8 HX8 HY8 HZ8 HG8 HC8 HOW8 HN8 ⊢
    obtain ⟨g5, hA5, hg51, _, _⟩ := own_at (j := 0) HOW8.out (cells_get BB 0 (by rw [HMM.out]; have := HLB.out; omega))
    subst hA5
    have hg52 : g5 < w6.heap.size := ((HOW6.out).lt g5 rfl).2
    have HG5 := Lib.hid (And.intro hg51 hg52)
    clear hg51 hg52 HOW6
    go_loopw [54] (fun i wr => ∃ k : Nat, k ≤ m ∧ i = .int .i64 k ∧ Turned w8 wr w4.heap.size g5 m c5) (fun i _ => m - (intOf i).toNat)
    case atStart => exact ⟨0, Nat.zero_le _, rfl, BB, HMM.out, HOW8.out, World.grownBy.refl _ _⟩
    case round =>
      obtain ⟨k, hk, rfl, HT⟩ := hrel
      by_cases hks : k < m
      · obtain ⟨bs, hbs, hob, hgb⟩ := HT
        have hkb : k < bs.length := by omega
        obtain ⟨x, hx⟩ : ∃ x : Nat, bs[k].toNat = x := ⟨_, rfl⟩
        have hx2 : x < 256 := by rw [← hx]; exact bs[k].toNat_lt
        have hcell : wr.cell? ⟨g5, k, none⟩ = some (.int .u8 (x : Int)) := by
          rw [hob.cellAt k (by omega), cells_get bs k hkb, hx]
        have hfree : wr.frozen? ⟨g5, k, none⟩ = false := hob.frozenAt k
        have HST := Lib.hid (Turned.step hbs hob hgb hks (((x : Int) + 1) % 256) (by omega))
        clear hbs hob hgb hkb hx
        go_wp2
        go_roundw
        case rel => exact ⟨k + 1, by omega, by go_num, HST.out⟩
        case measure => simp [intOf]; omega
      · obtain rfl : k = m := by omega
        obtain ⟨bs, _, _, hgb⟩ := HT
        have hg1 := HG5.out.1
        have hg2 := HG5.out.2
        have hz8 := HN8.out
        have hz3 := HZ3.out
        have hlt := HLT.out
        have n0 : ∀ j, j ≠ g5 → some j ≠ some g5 := fun j h e => h (by injection e)
        have HX9 := Lib.hid ((hgb.block w.heap.size (row_lt HX8.out) (n0 _ (by omega))).trans HX8.out)
        have HY9 := Lib.hid ((hgb.block w1.heap.size (row_lt HY8.out) (n0 _ (by omega))).trans HY8.out)
        have HZ9 := Lib.hid ((hgb.block w7.heap.size (row_lt HZ8.out) (n0 _ (by omega))).trans HZ8.out)
        have HF9 := Lib.hid (HF8.out.grown hgb (by omega) (fun g e => by injection e with e; omega))
        have HG9 := Lib.hid (HG8.out.grown hgb (by omega) (fun g e => by injection e with e; omega))
        have HC9 := Lib.hid (HC8.out.grown hgb (by omega) (fun g e => by injection e with e; omega))
        have HB9 := Lib.hid (HB8.out.grown hgb HB8.out.size (fun g e => by injection e with e; omega))
        have HL9 : Hid (w7.heap.size ≤ wr.heap.size ∧ w3.heap.size ≤ wr.heap.size ∧ w.heap.size ≤ wr.heap.size) := by
          have := hgb.size
          exact ⟨by omega, by omega, by omega⟩
        clear hgb hg1 hg2 hz8 hz3 hlt n0 HX8 HY8 HZ8 HF8 HG8 HC8 HB8
        go_wp2_with (first | refine wpList_load_rowg rfl 27 _ rfl w7.heap.size rfl _ ds _ _ HZ9.out Try.underlying27 rfl (size_fr HS7.out) ?_ | refine wpList_load_rowg rfl 27 _ rfl w.heap.size rfl _ cs _ _ HX9.out Try.underlying27 rfl (size_fr HS.out) ?_)
        refine (same_any ds cs f f _ _ _ _ _ HF9.out HC9.out HL9.out.1 HL9.out.2.2).mono ?_
        rintro e wa ⟨rfl, hba⟩
        rw [frEq_self]
        have HXa := Lib.hid ((hba.block _ (row_lt HX9.out)).trans HX9.out)
        have HYa := Lib.hid ((hba.block _ (row_lt HY9.out)).trans HY9.out)
        have HGa := Lib.hid (HG9.out.below hba HL9.out.2.1)
        have HCa := Lib.hid (HC9.out.below hba HL9.out.2.2)
        have HBa := Lib.hid (HB9.out.trans (hba.mono HB9.out.size))
        have HLa : Hid (w3.heap.size ≤ wa.heap.size ∧ w.heap.size ≤ wa.heap.size) := ⟨Nat.le_trans HL9.out.2.1 hba.size, Nat.le_trans HL9.out.2.2 hba.size⟩
        clear hba HX9 HY9 HZ9 HF9 HG9 HC9 HB9 HL9
        go_wp2_with (first | refine wpList_load_rowg rfl 27 _ rfl w1.heap.size rfl _ _ _ _ HYa.out Try.underlying27 rfl (size_fr ((Array.size_setIfInBounds ..).trans HS.out)) ?_ | refine wpList_load_rowg rfl 27 _ rfl w.heap.size rfl _ cs _ _ HXa.out Try.underlying27 rfl (size_fr HS.out) ?_)
        refine (same_any (cs.setIfInBounds 13 (.slice A2 n c2)) cs f f _ _ _ _ _ HGa.out HCa.out HLa.out.1 HLa.out.2).mono ?_
        rintro e wb ⟨rfl, hbb⟩
        rw [frEq_self]
        have HBb := Lib.hid (HBa.out.trans (hbb.mono HBa.out.size))
        clear hbb
        go_wp2
        go_ret
        exact ⟨rfl, HBb.out⟩
end Go.Proofs.Ytooepllgefndnaa
