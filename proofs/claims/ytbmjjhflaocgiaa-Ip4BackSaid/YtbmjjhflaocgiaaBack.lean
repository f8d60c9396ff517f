/-
  Ip4Back returns true for every slice of bytes, and turns nothing that was there.
-/
import Derived.Test.YtbmjjhflaocgiaaLives
import Derived.Test.YtbmjjhflaocgiaaShape
namespace Go.Proofs.Ytbmjjhflaocgiaa
open Go.RowKit

set_option maxHeartbeats 1000000 in
theorem back_big (A : Option Addr) (n c : Nat) (w : World) (hn : 400 < n) (hm : n ≤ 9223372036854775807) :
    Calls Try.prog 7 #[.slice A n c] w fun e w' => e = .returned (.bool true) ∧ Below w.heap.size w w' := by
  go_enter Try.func7, Try.ntmps7
  go_wp2_with fail
  refine (lives_any _).mono ?_
  rintro e w1 ⟨rfl, hb1⟩
  go_wp2_with fail
  refine (lives_any _).mono ?_
  rintro e w2 ⟨rfl, hb2⟩
  have HB := Lib.hid (hb1.trans (hb2.mono hb1.size))
  clear hb1 hb2
  go_wp2
  go_ret
  exact ⟨rfl, HB.out⟩

set_option maxRecDepth 100000 in
set_option maxHeartbeats 4000000 in
theorem back_walk (A : Option Addr) (l : List UInt8) (n c : Nat) (w : World) (hl : l.length = n) (hn : n ≤ 400) (h : Rd w 0 w.heap.size A (cells l)) (hc : n ≤ c) (hm : c ≤ maxLen) :
    Calls Try.prog 7 #[.slice A n c] w fun e w' => e = .returned (.bool true) ∧ Below w.heap.size w w' := by
  have HL := Lib.hid hl
  have HR := Lib.hid h
  have HM := Lib.hid hm
  have HC := Lib.hid hc
  clear hl h hm hc
  go_enter Try.func7, Try.ntmps7
  go_wp2_with fail
  refine (lives_any _).mono ?_
  rintro e w1 ⟨rfl, hb1⟩
  have HB1 := Lib.hid hb1
  clear hb1
  go_wp2_with fail
  have hp := parse_len A l n c w.heap.size w1 HL.out (HR.out.below HB1.out (Nat.le_refl _)) HB1.out.size HC.out (by omega) HM.out
  obtain ⟨f, hf⟩ : ∃ f, (parseP l).1 = f := ⟨_, rfl⟩
  obtain ⟨er, her⟩ : ∃ er, (parseP l).2 = er := ⟨_, rfl⟩
  have hpr : parseP l = (f, er) := by rw [← hf, ← her]
  rw [hpr] at hp
  refine hp.mono ?_
  rintro e w2 ⟨cs, rfl, hv, hb2⟩
  have hB2 := HB1.out.trans (hb2.mono HB1.out.size)
  have HB2 := Lib.hid (hB2.alloc hB2.size (.cells cs 27))
  have HX2 := Lib.hid (heap_alloc_new w2 (.cells cs 27))
  have HS2 := Lib.hid hv.size
  have HO2 := Lib.hid hv.one
  have HF2 := Lib.hid ((hv.alloc (Nat.le_refl _) (.cells cs 27)).wide (Nat.zero_le _) (Nat.le_refl _))
  have HZ2 : Hid (w2.heap.size + 1 = (w2.alloc (.cells cs 27)).heap.size) := by show _ = _; simp
  obtain ⟨A2, c2, hc1, _, hc13, _, hlc2, hcm2, _⟩ := hv.parts
  have H1 := Lib.hid hc1
  have H13 := Lib.hid hc13
  have HDL := Lib.hid hlc2
  have HDM := Lib.hid hcm2
  clear hp hb2 hB2 hc1 hc13 hlc2 hcm2
  by_cases he : er = 0
  · have hok : f.ok := by rw [← hf]; exact parse_ok l
    have hoff : 0 ≤ f.off ∧ f.off ≤ 65528 ∧ f.off % 8 = 0 := by
      have := parse_some (l := l) (by rw [her, he])
      rw [← hf, this.2.2.2.2.2.2]
      exact off_ok l
    have HBK := Lib.hid (build_back hoff)
    have HOK := Lib.hid hok
    subst he
    clear hf her hpr hok hoff hv
    go_wp2_with (first | refine wpList_store_new rfl 27 _ _ rfl w2 #[.int .u16 0, .bool false, .int .i64 0, .int .u8 0, .int .u8 0, .int .u8 0, .int .u8 0, .int .u8 0, .int .u8 0, .int .u8 0, .int .u8 0, .int .u8 0, .int .u8 0, .slice none 0 0] cs rfl rfl (size_pk HS2.out) HS2.out.symm HO2.out ?_ | refine wpList_load_row rfl 27 _ rfl w2.heap.size rfl _ cs _ _ HX2.out Try.underlying27 rfl (size_pk HS2.out) ?_)
    generalize w2.alloc (.cells cs 27) = w3 at HB2 HX2 HF2 HZ2 ⊢
    refine (build_any cs f w3 0 w2.heap.size HF2.out (by have := HZ2.out; omega)).mono ?_
    rintro e w4 ⟨A4, c4, rfl, ho4, hb4⟩
    have hX4 := (hb4.block _ (row_lt HX2.out)).trans HX2.out
    have HX4 := Lib.hid hX4
    have HB4 := Lib.hid (HB2.out.trans (hb4.mono HB2.out.size))
    have HF4 := Lib.hid (HF2.out.below hb4 (by have := HZ2.out; omega))
    have HZ4 : Hid (w2.heap.size ≤ w4.heap.size) := by have := HZ2.out; have := hb4.size; show _ ≤ _; omega
    have k1 : w4.cell? ⟨w2.heap.size, 1, none⟩ = some (.bool f.more) := by rw [cell_of_row _ _ _ _ _ _ hX4]; exact H1.out
    have k13 : w4.cell? ⟨w2.heap.size, 13, none⟩ = some (.slice A2 f.data.length c2) := by rw [cell_of_row _ _ _ _ _ _ hX4]; exact H13.out
    have HO4 := Lib.hid ho4
    clear hb4 hX4 ho4 HX2 HB2 HF2 HZ2
    obtain ⟨m, hm⟩ : ∃ m, f.data.length = m := ⟨_, rfl⟩
    rw [hm] at k13
    have HMM := Lib.hid hm
    have hm63 : m ≤ 9223372036854775807 := by have h1 := HDL.out; have h2 := HDM.out; unfold maxLen at h2; omega
    clear hm
    rcases HBK.out with ⟨q1, q2, q3⟩ | ⟨q1, q3⟩ | ⟨q1, q2, q3⟩
    · rw [q3] at HO4 ⊢
      rw [HMM.out] at q2
      rw [q1] at k1
      have q4 : ((m : Int) % 8 != 0) = true := bneT (by omega)
      clear q1 q2 q3 HBK
      by_cases q5 : 180 < m
      all_goals
        simp only [List.length_nil]
        go_wp2
        go_ret
        exact ⟨rfl, HB4.out⟩
    · rw [q3] at HO4 ⊢
      rw [HMM.out] at q1
      have q4 : 180 < (m : Int) := by omega
      clear q1 q3 HBK
      simp only [List.length_nil]
      go_wp2
      go_ret
      exact ⟨rfl, HB4.out⟩
    · rw [q3] at HO4 ⊢
      have hpb := parse_bytes HOK.out q1 q2 []
      rw [List.append_nil] at hpb
      have HPB := Lib.hid hpb
      have hbl := bytes_length HOK.out
      rw [HMM.out] at hbl q2
      obtain ⟨bs, hbs⟩ : ∃ bs, f.bytes = bs := ⟨_, rfl⟩
      rw [hbs] at hpb hbl HO4 HPB ⊢
      obtain ⟨L, hL⟩ : ∃ L, bs.length = L := ⟨_, rfl⟩
      have ho := HO4.out
      unfold OwnB at ho
      simp only at ho ⊢
      rw [hL] at ho hbl ⊢
      have HOW := Lib.hid ho
      have HLL := Lib.hid hL
      have hLm : (L : Int) = 20 + (m : Int) := by omega
      have HLM := Lib.hid hLm
      have hL200 : L ≤ 200 := by omega
      clear q1 q2 q3 HBK hpb hbl hbs hL ho HO4 hLm
      go_wp2_with fail
      have hp := parse_len A4 bs L c4 w4.heap.size w4 HLL.out ((Rd.own HOW.out).wide (Nat.zero_le _) (Nat.le_refl _)) (Nat.le_refl _) (own_cap HOW.out).1 (by omega) (own_cap HOW.out).2
      rw [HPB.out] at hp
      refine hp.mono ?_
      rintro e w5 ⟨ds, rfl, hv5, hb5⟩
      have hB5 := HB4.out.trans (hb5.mono HB4.out.size)
      have HB5 := Lib.hid (hB5.alloc hB5.size (.cells ds 27))
      have HX5 := Lib.hid (old_alloc ((hb5.block _ (row_lt HX4.out)).trans HX4.out) (.cells ds 27))
      have HY5 := Lib.hid (heap_alloc_new w5 (.cells ds 27))
      have HS5 := Lib.hid hv5.size
      have HO5 := Lib.hid hv5.one
      have HF5 := Lib.hid ((HF4.out.below hb5 HZ4.out).alloc (Nat.le_trans HZ4.out hb5.size) (.cells ds 27))
      have HG5 := Lib.hid (hv5.alloc (Nat.le_refl _) (.cells ds 27))
      have HZ5 : Hid (w2.heap.size ≤ (w5.alloc (.cells ds 27)).heap.size ∧ w5.heap.size ≤ (w5.alloc (.cells ds 27)).heap.size) := by
        have := HZ4.out
        have := hb5.size
        refine ⟨?_, ?_⟩ <;> simp <;> omega
      clear hp hv5 hb5 hB5 k1 k13 HX4 HB4 HF4 HZ4
      go_wp2_with (first | refine wpList_store_new rfl 27 _ _ rfl w5 #[.int .u16 0, .bool false, .int .i64 0, .int .u8 0, .int .u8 0, .int .u8 0, .int .u8 0, .int .u8 0, .int .u8 0, .int .u8 0, .int .u8 0, .int .u8 0, .int .u8 0, .slice none 0 0] ds rfl rfl (size_pk HS5.out) HS5.out.symm HO5.out ?_ | refine wpList_load_rowg rfl 27 _ rfl w2.heap.size rfl _ cs _ _ HX5.out Try.underlying27 rfl (size_pk HS2.out) ?_ | refine wpList_load_rowg rfl 27 _ rfl w5.heap.size rfl _ ds _ _ HY5.out Try.underlying27 rfl (size_pk HS5.out) ?_)
      refine (same_any cs ds f f _ _ _ _ _ HF5.out HG5.out HZ5.out.1 HZ5.out.2).mono ?_
      rintro e w6 ⟨rfl, hb6⟩
      rw [pkEq_self]
      have HB6 := Lib.hid (HB5.out.trans (hb6.mono HB5.out.size))
      have k13 : w6.cell? ⟨w2.heap.size, 13, none⟩ = some (.slice A2 m c2) := by rw [cell_of_row _ _ _ _ _ _ ((hb6.block _ (row_lt HX5.out)).trans HX5.out), H13.out, HMM.out]
      have hLm := HLM.out
      clear hb6
      go_wp2
      go_ret
      exact ⟨rfl, HB6.out⟩
  · have hz : f = Pk.zero := by rw [← hf]; exact parse_zero l (by rw [her]; exact he)
    have hne : (er == 0) = false := beqF he
    have hne2 : (er != 0) = true := bneT he
    subst hz
    clear hf her hpr he hv
    go_wp2_with (first | refine wpList_store_new rfl 27 _ _ rfl w2 #[.int .u16 0, .bool false, .int .i64 0, .int .u8 0, .int .u8 0, .int .u8 0, .int .u8 0, .int .u8 0, .int .u8 0, .int .u8 0, .int .u8 0, .int .u8 0, .int .u8 0, .slice none 0 0] cs rfl rfl (size_pk HS2.out) HS2.out.symm HO2.out ?_ | refine wpList_load_row rfl 27 _ rfl w2.heap.size rfl _ cs _ _ HX2.out Try.underlying27 rfl (size_pk HS2.out) ?_)
    generalize w2.alloc (.cells cs 27) = w3 at HB2 HX2 HF2 HZ2 ⊢
    refine (same_any cs _ Pk.zero Pk.zero _ _ 0 0 _ HF2.out (zero_pkV _ _ _) (by have := HZ2.out; omega) (Nat.zero_le _)).mono ?_
    rintro e w6 ⟨rfl, hb6⟩
    rw [pkEq_self]
    have HB6 := Lib.hid (HB2.out.trans (hb6.mono HB2.out.size))
    clear hb6
    go_wp2
    go_ret
    exact ⟨rfl, HB6.out⟩
end Go.Proofs.Ytbmjjhflaocgiaa
