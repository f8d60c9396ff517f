/-
  The law FragHolds: every slice of bytes, either bool. No condition.
-/
import Derived.Test.YtogplhdcicajgaaPieceF
import Derived.Test.YtogplhdcicajgaaLivesS
import Derived.Test.YtogplhdcicajgaaPkShape
import Derived.Test.YtogplhdcicajgaaRelyL
import Derived.ArgAppend
import Derived.Deep.DeepCutAuto
namespace Go.Proofs.Ytogplhdcicajgaa
open Go.RowKit

/-- 'append' onto a row of the call's own, which is owned still, as long as it was -/
theorem app_three {P : Program} {w : World} {base : Nat} {t ty e : TypeId} {i : TypeInfo} {z : Value} (ht : P.underlying t = some (.slice e)) (hi : P.info? e = some i) (hz : i.zero = some z) (hsize : i.size = 1) (hby : i.bytes = 1) (hzs : z.cells.size = 1)
    {g c n : Nat} {xs : List Value} (hown : w.ownsRow base e 1 (.slice (some ⟨g, 0, none⟩) n c) n xs)
    {A : Option Addr} {m k : Nat} {news : List Value} (hA : A = none → k = 0) (hl : news.length = m) {lo hi' : Nat} (hrd : Rd w lo hi' A news) (h1 : ∀ u ∈ news, u.oneCell' = true) (h63 : n + m ≤ maxLen) (hby2 : n + m ≤ 140737488355328) (hbase : base ≤ w.heap.size) :
    ∃ v' w', (Builtin.append_ #[t, t] ty #[.slice (some ⟨g, 0, none⟩) n c, .slice A m k]).run P w = .ok v' w' ∧ w'.ownsRow base e 1 v' (n + m) (xs ++ news) ∧ (∀ u, w.ownsRow base e 1 u n xs → w'.ownsRow base e 1 u n xs) ∧ Below base w w' ∧ w.grownBy w' (some g) := by
  rcases A with _ | ad
  · have e0 : news = [] := by
      rcases news with _ | ⟨u, r⟩
      · rfl
      · obtain ⟨ad, e, _⟩ := hrd 0 u rfl
        cases e
    subst e0
    have hm : m = 0 := hl.symm
    have hc : k = 0 := hA rfl
    subst hm hc
    exact ⟨_, w, run_append_owned_none (P := P) (w := w) base t ty e i 1 ht hi _ n xs hown, by simpa using hown, fun _ h => h, Below.refl _ _, World.grownBy.refl _ _⟩
  · have hnews : ∀ j u, news[j]? = some u → w.cell? (ad.add j) = some u := fun j u hu => by
      obtain ⟨ad', e', _, _, hc⟩ := hrd j u hu
      cases e'
      exact hc
    obtain ⟨hxl, hown2⟩ := hown
    rcases hown2 with ⟨he, _⟩ | ⟨g', c', cur, he, hb, hg, hnc, hcm, hcs, htk⟩
    · cases he
    · injection he with e1 e2 e3
      injection e1 with e1
      injection e1 with e1
      subst e1 e3
      rw [Nat.mul_one] at hcs htk hxl
      by_cases hroom : n + m ≤ c
      · have hr := run_append_room (P := P) w t ty e i ht hi g n c cur hg ad m k news (by rw [hsize]; omega) hnews h1 hroom (by rw [hsize]; omega)
        rw [hsize, Nat.mul_one] at hr
        have hz0 := setRow_heap w g cur (cur.toList.take n ++ news ++ cur.toList.drop (n + news.length)).toArray e (0, 0) hg
        have hcl : cur.toList.length = c := by rw [← hcs]; simp
        have hsz : (cur.toList.take n ++ news ++ cur.toList.drop (n + news.length)).toArray.size = c := by
          simp only [List.size_toArray, List.length_append, List.length_take, List.length_drop, hcl]
          omega
        refine ⟨_, _, hr, ⟨by rw [List.length_append]; omega, .inr ⟨g, c, _, rfl, hb, hz0, hroom, hcm, by rw [hsz]; omega, ?_⟩⟩, fun u hu => ?_, below_setRow (Below.refl _ _) hb _, ⟨rfl, rfl, rfl, by simp, fun k _ hk => setRow_other _ _ _ _ (fun he => hk (by rw [he]))⟩⟩
        · show (cur.toList.take n ++ news ++ cur.toList.drop (n + news.length)).take ((n + m) * 1) = _
          rw [Nat.mul_one, htk, List.take_left' (by rw [List.length_append]; omega)]
        · rcases hu.2 with h0 | ⟨g2, c2, cur2, he2, hb2, hg2, hn2, hm2, hs2, ht2⟩
          · exact ⟨hu.1, .inl h0⟩
          · by_cases hgg : g2 = g
            · subst hgg
              rw [hg] at hg2
              injection hg2 with hg2
              injection hg2 with hg2 _ _
              subst hg2
              refine ⟨hu.1, .inr ⟨g2, c2, _, he2, hb2, hz0, hn2, hm2, by rw [hsz]; omega, ?_⟩⟩
              show (cur.toList.take n ++ news ++ cur.toList.drop (n + news.length)).take (n * 1) = _
              rw [Nat.mul_one, htk, List.append_assoc, List.take_left' (by omega)]
            · exact ⟨hu.1, .inr ⟨g2, c2, cur2, he2, hb2, (setRow_other w g g2 _ hgg).trans hg2, hn2, hm2, hs2, ht2⟩⟩
      · obtain ⟨v', w', hr, r1, r2⟩ := run_append_arg_grows (P := P) w t ty e i z 1 1 ht hi hz hsize hby hzs (by omega) ⟨g, 0, none⟩ n c xs (by omega) (fun j u hu => by
          have hj := (List.getElem?_eq_some_iff.1 hu).1
          rw [← htk, List.getElem?_take, if_pos (by omega)] at hu
          rw [Addr.add_lit, Nat.zero_add, cell_of_row _ _ _ _ _ _ hg]
          simpa using hu) ad m k news (by omega) hnews (by omega) h63 (by omega)
        have hbl : Below w.heap.size w w' := ⟨r2.os, r2.tape, r2.output, r2.size, fun k hk => r2.block k hk (by simp)⟩
        refine ⟨v', w', hr, own_base r1 hbase, fun u hu => ?_, hbl.mono hbase, ⟨r2.os, r2.tape, r2.output, r2.size, fun k hk _ => r2.block k hk (by simp)⟩⟩
        rcases hu.2 with h0 | ⟨g2, c2, cur2, he2, hb2, hg2, hrest⟩
        · exact ⟨hu.1, .inl h0⟩
        · exact ⟨hu.1, .inr ⟨g2, c2, cur2, he2, hb2, (hbl.block _ (row_lt hg2)).trans hg2, hrest⟩⟩
theorem loads_own {w : World} {B g n c : Nat} {e : TypeId} {xs : List Value} (h : w.ownsRow B e 1 (.slice (some ⟨g, 0, none⟩) n c) n xs) : ∀ (j : Nat) u, xs[j]? = some u → w.cell? ((⟨g, 0, none⟩ : Addr).add j) = some u := fun j u hu => by
  obtain ⟨ad, e, _, _, hc⟩ := Rd.own h j u hu
  cases e
  exact hc
/-- the make's row, the literal's row, a row of the call's own, a packet, a new variable -/
def CapL (B L : Nat) (bs : List UInt8) : Pred := fun v w => ∃ g, v = .slice (some ⟨g, 0, none⟩) L L ∧ w.ownsRow B 5 1 (.slice (some ⟨g, 0, none⟩) L L) L (cells bs)
theorem capL_mono (B L : Nat) (bs : List UInt8) : Mono (CapL B L bs) := fun _ _ _ hb ⟨g, h1, h2⟩ => ⟨g, h1, own_below h2 hb (Nat.le_refl _)⟩
def OwnL (B L : Nat) (bs : List UInt8) : Pred := fun v w => ∃ g c, v = .slice (some ⟨g, 0, none⟩) L c ∧ w.ownsRow B 5 1 (.slice (some ⟨g, 0, none⟩) L c) L (cells bs)
theorem ownL_mono (B L : Nat) (bs : List UInt8) : Mono (OwnL B L bs) := fun _ _ _ hb ⟨g, c, h1, h2⟩ => ⟨g, c, h1, own_below h2 hb (Nat.le_refl _)⟩
theorem capL_kept {B L g2 n2 c2 : Nat} {bs : List UInt8} {xs2 : List Value} {u : Value} {w w' : World} (h : CapL B L bs u w) (h2 : w.ownsRow B 5 1 (.slice (some ⟨g2, 0, none⟩) n2 c2) n2 xs2) (hc : L < n2) (hg : w.grownBy w' (some g2)) : CapL B L bs u w' := by
  obtain ⟨g, h1, h3⟩ := h
  refine ⟨g, h1, h3.kept hg (.inr ?_)⟩
  intro he
  injection he with he
  rcases h3.2 with h0 | ⟨ga, ca, cura, hea, _, hga, _, _, hsa, _⟩
  · cases h0.1
  · rcases h2.2 with h0 | ⟨gb, cb, curb, heb, _, hgb, hnb, _, hsb, _⟩
    · cases h0.1
    · injection hea with e1 _ e3
      injection e1 with e1
      injection e1 with e1
      injection heb with f1 _ f3
      injection f1 with f1
      injection f1 with f1
      subst e1 e3 f1 f3
      have he' : g = g2 := by simpa using he
      subst he'
      rw [hga] at hgb
      injection hgb with hgb
      injection hgb with hgb _ _
      subst hgb
      omega
def NewP2 (p : Pk) : Pred := fun v w => ∃ ds, v = .agg ds ∧ PkT w 0 ds.toList p
theorem newp2_mono (p : Pk) : Mono (NewP2 p) := fun _ _ _ hb ⟨ds, h1, h2⟩ => ⟨ds, h1, h2.below hb (Nat.le_refl _)⟩
def VarP (B : Nat) (Z : Array Value) : Pred := fun v w => ∃ g, v = .pointer (some ⟨g, 0, none⟩) ∧ B ≤ g ∧ w.heap[g]? = some (.cells Z 27 (0, 0))
theorem varp_mono (B : Nat) (Z : Array Value) : Mono (VarP B Z) := fun _ _ _ hb ⟨g, h1, h2, h3⟩ => ⟨g, h1, h2, (hb.block _ (row_lt h3)).trans h3⟩
theorem stH_small (i : Nat) (hi : i ≤ 8) : (stH i).length ≤ 8 ∧ ∀ h ∈ stH i, h.got.length < 1000 := ⟨by rw [stH_len]; exact hi, fun h hh => by rw [(stH_mem hh).2.2]; decide⟩
theorem seven_small : seven.length ≤ 8 ∧ ∀ h ∈ seven, h.got.length < 1000 := ⟨by decide, fun h hh => by rw [(seven_mem hh).2.2]; decide⟩

set_option maxRecDepth 100000 in
set_option maxHeartbeats 8000000 in
theorem holds_any (A : Option Addr) (l : List UInt8) (n c : Nat) (old : Bool) (w : World) (hl : l.length = n) (hr : Rd w 0 w.heap.size A (cells l)) (hm : n ≤ 9223372036854775807) (hA : A = none → c = 0) :
    Calls Try.prog 4 #[.slice A n c, .bool old] w fun e w' => e = .returned (.bool true) ∧ Below w.heap.size w w' := by
  obtain ⟨w1, hw1⟩ : ∃ w1, w.alloc (.cells #[.slice A n c] 25) = w1 := ⟨_, rfl⟩
  have HB1 : Hid (Below w.heap.size w w1) := by show Below _ _ _; rw [← hw1]; exact (Below.refl _ _).alloc (Nat.le_refl _) _
  have HG1 : Hid (w1.heap[w.heap.size]? = some (.cells #[.slice A n c] 25 (0, 0))) := by show _ = _; rw [← hw1]; exact heap_alloc_new w _
  have HL := Lib.hid hl
  have HR := Lib.hid hr
  have HA := Lib.hid hA
  clear hl hr hA
  go_enter Try.func4, Try.ntmps4
  go_wp2_with fail
  refine (lives_any _).mono ?_
  rintro e w2 ⟨rfl, hb2⟩
  have HB2 := Lib.hid (HB1.out.trans (hb2.mono HB1.out.size))
  have HG2 := Lib.hid ((hb2.block _ (row_lt HG1.out)).trans HG1.out)
  have k0 : w2.cell? ⟨w.heap.size, 0, none⟩ = some (.slice A n c) := cell_of_row _ _ 0 _ _ _ HG2.out
  clear hb2
  by_cases hbig : 200 < n
  · go_wp2_with fail
    refine (lives_any _).mono ?_
    rintro e w3 ⟨rfl, hb3⟩
    have HB3 := Lib.hid (HB2.out.trans (hb3.mono HB2.out.size))
    clear hb3
    go_wp2
    go_ret
    exact ⟨rfl, HB3.out⟩
  have hn2 : n ≤ 200 := by omega
  go_wp2
  go_loopw [5, 34] (fun t5 t34 wr => ∃ i : Nat, i ≤ 9 ∧ t34 = .int .i64 (i : Int) ∧ Hid (HksT wr t5 (stH (min i 8))) ∧ Hid (Below w2.heap.size w2 wr)) (fun _ t34 _ => 9 - (intOf t34).toNat)
  case atStart => exact ⟨0, Nat.zero_le _, rfl, Lib.hid ⟨none, 0, [], rfl, Tr.nil, RowOf.nil, Nat.le_refl _, Nat.zero_le _, fun _ => rfl⟩, Lib.hid (Below.refl _ _)⟩
  case round =>
    obtain ⟨i, hi9, rfl, HH, HBR⟩ := hrel
    generalize u5 = v5 at HH ⊢
    by_cases hlt : i < 9
    · by_cases h8 : i < 8
      · have HAD : Hid (addP (stH (min i 8)) (p0H i) 5 = (stH (min (i + 1) 8), Pk.zero, false, 0)) := by
          show _ = _
          rw [Nat.min_eq_left (by omega), Nat.min_eq_left (by omega)]
          exact holds_new i h8
        have HADS : Hid ((stH (min i 8)).length ≤ 8 ∧ ∀ h ∈ stH (min i 8), h.got.length < 1000) := stH_small _ (Nat.min_le_right _ _)
        have q8 : (i : Int) < 8 := by omega
        go_wp2_with fail
        refine (piece_first i w.heap.size (by omega) wr).mono ?_
        rintro e' wa3 ⟨ds3, rfl, hds3, hba3⟩
        have HDS3 := Lib.hid hds3.pkV
        have HHA3 := Lib.hid (HH.out.below hba3)
        have HBA3 := Lib.hid (HBR.out.trans (hba3.mono HBR.out.size))
        have HXA3 := Lib.hid hba3
        clear hds3 hba3
        go_wp2_with fail
        refine (add_any v5 (stH (min i 8)) ds3 (p0H i) 0 wa3.heap.size 5 wa3 HHA3.out (HADS.out).1 (HADS.out).2 (by simpa using HDS3.out) (Nat.le_refl _) (p0_ok i).1 (p0_ok i).2.1 (p0_ok i).2.2 (by decide)).mono ?_
        rw [HAD.out]
        rintro e' wb3 ⟨v3', es3, rfl, hh3, hp3, hbb3⟩
        have HBB3 := Lib.hid (HBA3.out.trans (hbb3.mono HBA3.out.size))
        have hbn3 : Below wb3.heap.size wb3 (wb3.alloc (.cells es3 27)) := (Below.refl _ _).alloc (Nat.le_refl _) _
        have HBC3 := Lib.hid (HBB3.out.trans (hbn3.mono HBB3.out.size))
        have HLO3 := Lib.hid (HXA3.out.trans ((hbb3.trans (hbn3.mono hbb3.size)).mono HXA3.out.size))
        have HHC3 := Lib.hid (hh3.below hbn3)
        have HPC3 := Lib.hid (hp3.below hbn3 (Nat.le_refl _))
        have HES3 : Hid (es3.size = 14) := hp3.size
        have HEO3 : Hid (es3.all (·.oneCell') = true) := hp3.one
        clear hh3 hp3 hbb3 hbn3
        go_wp2_with (first | refine wpList_store_new rfl 27 _ _ rfl wb3 #[.int .u16 0, .bool false, .int .i64 0, .int .u8 0, .int .u8 0, .int .u8 0, .int .u8 0, .int .u8 0, .int .u8 0, .int .u8 0, .int .u8 0, .int .u8 0, .int .u8 0, .slice none 0 0] es3 rfl rfl (size_pk HES3.out) (by rw [HES3.out]; rfl) HEO3.out ?_)
        go_roundw
        case rel => exact ⟨i + 1, by omega, by go_num, HHC3, HBC3⟩
        case measure => simp [intOf]; omega
      · obtain rfl : i = 8 := by omega
        have HAD : Hid (addP (stH (min 8 8)) (p0H 8) 5 = (stH 8, Pk.zero, false, 5)) := holds_full
        have HADS : Hid ((stH (min 8 8)).length ≤ 8 ∧ ∀ h ∈ stH (min 8 8), h.got.length < 1000) := stH_small _ (Nat.min_le_right _ _)
        go_wp2_with fail
        refine (piece_first 8 w.heap.size (by omega) wr).mono ?_
        rintro e' wa3 ⟨ds3, rfl, hds3, hba3⟩
        have HDS3 := Lib.hid hds3.pkV
        have HHA3 := Lib.hid (HH.out.below hba3)
        have HBA3 := Lib.hid (HBR.out.trans (hba3.mono HBR.out.size))
        have HXA3 := Lib.hid hba3
        clear hds3 hba3
        go_wp2_with fail
        refine (add_any v5 (stH (min 8 8)) ds3 (p0H 8) 0 wa3.heap.size 5 wa3 HHA3.out (HADS.out).1 (HADS.out).2 (by simpa using HDS3.out) (Nat.le_refl _) (p0_ok 8).1 (p0_ok 8).2.1 (p0_ok 8).2.2 (by decide)).mono ?_
        rw [HAD.out]
        rintro e' wb3 ⟨v3', es3, rfl, hh3, hp3, hbb3⟩
        have HBB3 := Lib.hid (HBA3.out.trans (hbb3.mono HBA3.out.size))
        have hbn3 : Below wb3.heap.size wb3 (wb3.alloc (.cells es3 27)) := (Below.refl _ _).alloc (Nat.le_refl _) _
        have HBC3 := Lib.hid (HBB3.out.trans (hbn3.mono HBB3.out.size))
        have HLO3 := Lib.hid (HXA3.out.trans ((hbb3.trans (hbn3.mono hbb3.size)).mono HXA3.out.size))
        have HHC3 := Lib.hid (hh3.below hbn3)
        have HPC3 := Lib.hid (hp3.below hbn3 (Nat.le_refl _))
        have HES3 : Hid (es3.size = 14) := hp3.size
        have HEO3 : Hid (es3.all (·.oneCell') = true) := hp3.one
        clear hh3 hp3 hbb3 hbn3
        go_wp2_with (first | refine wpList_store_new rfl 27 _ _ rfl wb3 #[.int .u16 0, .bool false, .int .i64 0, .int .u8 0, .int .u8 0, .int .u8 0, .int .u8 0, .int .u8 0, .int .u8 0, .int .u8 0, .int .u8 0, .int .u8 0, .int .u8 0, .slice none 0 0] es3 rfl rfl (size_pk HES3.out) (by rw [HES3.out]; rfl) HEO3.out ?_)
        go_roundw
        case rel => exact ⟨9, by omega, by go_num, HHC3, HBC3⟩
        case measure => simp [intOf]
    · obtain rfl : i = 9 := by omega
      have HH8 : Hid (HksT wr v5 (stH 8)) := HH.out
      have HG3 := Lib.hid ((HBR.out.block _ (row_lt HG2.out)).trans HG2.out)
      clear HH k0
      rcases old with _ | _
      · have HAD : Hid (addP (stH 8) (p1H l) 6 = (seven, pdH 3 l, true, 0)) := holds_whole l (by rw [HL.out]; exact hn2)
        have HADS : Hid ((stH 8).length ≤ 8 ∧ ∀ h ∈ stH 8, h.got.length < 1000) := stH_small _ (Nat.le_refl _)
        have HPI := Lib.hid (piece_last w.heap.size A l n c wr (cell_of_row _ _ 0 _ _ _ HG3.out) ((HR.out.below (HB2.out.trans (HBR.out.mono HB2.out.size)) (Nat.le_refl _)).wide (Nat.zero_le _) (HB2.out.trans (HBR.out.mono HB2.out.size)).size) HL.out HA.out hn2 (row_lt HG3.out))
        have HPK1 := Lib.hid (p1_ok l (by rw [HL.out]; exact hn2))
        go_wp2_with fail
        refine (HPI.out).mono ?_
        rintro e' wa3 ⟨ds3, rfl, hds3, hba3⟩
        have HDS3 := Lib.hid hds3.pkV
        have HHA3 := Lib.hid (HH8.out.below hba3)
        have HBA3 := Lib.hid (HBR.out.trans (hba3.mono HBR.out.size))
        have HXA3 := Lib.hid hba3
        clear hds3 hba3
        go_wp2_with fail
        refine (add_any v5 (stH 8) ds3 (p1H l) 0 wa3.heap.size 6 wa3 HHA3.out (HADS.out).1 (HADS.out).2 (by simpa using HDS3.out) (Nat.le_refl _) (HPK1.out).1 (HPK1.out).2.1 (HPK1.out).2.2 (by decide)).mono ?_
        rw [HAD.out]
        rintro e' wb3 ⟨v3', es3, rfl, hh3, hp3, hbb3⟩
        have HBB3 := Lib.hid (HBA3.out.trans (hbb3.mono HBA3.out.size))
        have hbn3 : Below wb3.heap.size wb3 (wb3.alloc (.cells es3 27)) := (Below.refl _ _).alloc (Nat.le_refl _) _
        have HBC3 := Lib.hid (HBB3.out.trans (hbn3.mono HBB3.out.size))
        have HLO3 := Lib.hid (HXA3.out.trans ((hbb3.trans (hbn3.mono hbb3.size)).mono HXA3.out.size))
        have HHC3 := Lib.hid (hh3.below hbn3)
        have HPC3 := Lib.hid (hp3.below hbn3 (Nat.le_refl _))
        have HES3 : Hid (es3.size = 14) := hp3.size
        have HEO3 : Hid (es3.all (·.oneCell') = true) := hp3.one
        clear hh3 hp3 hbb3 hbn3
        have HAE : Hid (addP seven (p0H 99) 6 = (seven ++ [HK 99 6], Pk.zero, false, 0)) := holds_again
        have HAES : Hid (seven.length ≤ 8 ∧ ∀ h ∈ seven, h.got.length < 1000) := seven_small
        obtain ⟨w4, hw4⟩ : ∃ w4, wb3.alloc (.cells es3 27) = w4 := ⟨_, rfl⟩
        obtain ⟨b4, hb4⟩ : ∃ b4, wb3.heap.size = b4 := ⟨_, rfl⟩
        have HY4 : Hid (w4.heap[b4]? = some (.cells es3 27 (0, 0))) := by show _ = _; rw [← hw4, ← hb4]; exact heap_alloc_new wb3 _
        rw [hw4] at HBC3 HHC3 HPC3
        rw [hb4] at HPC3
        have HW4 := Lib.hid hw4
        have HB4 := Lib.hid hb4
        have HS4 : Hid (b4 ≤ w4.heap.size) := Nat.le_of_lt (row_lt HY4.out)
        clear hw4 hb4
        go_upto_region 17 with (first | refine wpList_store_new rfl 27 _ _ rfl wb3 #[.int .u16 0, .bool false, .int .i64 0, .int .u8 0, .int .u8 0, .int .u8 0, .int .u8 0, .int .u8 0, .int .u8 0, .int .u8 0, .int .u8 0, .int .u8 0, .int .u8 0, .slice none 0 0] es3 rfl rfl (size_pk HES3.out) (by rw [HES3.out]; rfl) HEO3.out ?_)
        rw [HW4.out, HB4.out]
        go_wp2_with fail
        refine (piece_first 99 w.heap.size (by decide) w4).mono ?_
        rintro e' wa5 ⟨ds5, rfl, hds5, hba5⟩
        have HDS5 := Lib.hid hds5.pkV
        have HHA5 := Lib.hid (HHC3.out.below hba5)
        have HBA5 := Lib.hid (HBC3.out.trans (hba5.mono HBC3.out.size))
        have HXA5 := Lib.hid hba5
        clear hds5 hba5
        go_wp2_with fail
        refine (add_any v3' (seven) ds5 (p0H 99) 0 wa5.heap.size 6 wa5 HHA5.out (HAES.out).1 (HAES.out).2 (by simpa using HDS5.out) (Nat.le_refl _) (p0_ok 99).1 (p0_ok 99).2.1 (p0_ok 99).2.2 (by decide)).mono ?_
        rw [HAE.out]
        rintro e' wb5 ⟨v5', es5, rfl, hh5, hp5, hbb5⟩
        have HBB5 := Lib.hid (HBA5.out.trans (hbb5.mono HBA5.out.size))
        have hbn5 : Below wb5.heap.size wb5 (wb5.alloc (.cells es5 27)) := (Below.refl _ _).alloc (Nat.le_refl _) _
        have HBC5 := Lib.hid (HBB5.out.trans (hbn5.mono HBB5.out.size))
        have HLO5 := Lib.hid (HXA5.out.trans ((hbb5.trans (hbn5.mono hbb5.size)).mono HXA5.out.size))
        have HHC5 := Lib.hid (hh5.below hbn5)
        have HPC5 := Lib.hid (hp5.below hbn5 (Nat.le_refl _))
        have HES5 : Hid (es5.size = 14) := hp5.size
        have HEO5 : Hid (es5.all (·.oneCell') = true) := hp5.one
        clear hh5 hp5 hbb5 hbn5
        have HB45 := HLO5
        obtain ⟨w8, hw8⟩ : ∃ w8, wb5.alloc (.cells es5 27) = w8 := ⟨_, rfl⟩
        rw [hw8] at HBC5 HHC5 HB45
        have HW8 := Lib.hid hw8
        clear hw8
        go_upto_region 18 with (first | refine wpList_store_new rfl 27 _ _ rfl wb5 #[.int .u16 0, .bool false, .int .i64 0, .int .u8 0, .int .u8 0, .int .u8 0, .int .u8 0, .int .u8 0, .int .u8 0, .int .u8 0, .int .u8 0, .int .u8 0, .int .u8 0, .slice none 0 0] es5 rfl rfl (size_pk HES5.out) (by rw [HES5.out]; rfl) HEO5.out ?_)
        rw [HW8.out]
        go_cut [24] (fun t24 wx => ∃ g C, t24 = .pointer (some ⟨g, 0, none⟩) ∧ Hid (wx.heap[g]? = some (.cells C 27 (0, 0))) ∧ Hid (PkV wx 0 wx.heap.size C (pdH 3 l)) ∧ Hid (Below w8.heap.size w8 wx))
        case first =>
          obtain ⟨iU, hi1, hi2, hi3, hi4⟩ := info_parts info_u8
          have HIU := Lib.hid hi1
          have HZU := Lib.hid hi2
          have HSU := Lib.hid hi3
          have HBU := Lib.hid hi4
          have HZS : Hid ((Value.int .u8 0).cells.size = 1) := rfl
          have HW28 := Lib.hid (HB2.out.trans (HBC5.out.mono HB2.out.size))
          have HG8 := Lib.hid ((HBC5.out.block _ (row_lt HG2.out)).trans HG2.out)
          have HR8 := Lib.hid (HR.out.below HW28.out (Nat.le_refl _))
          have HWS : Hid (w.heap.size ≤ w8.heap.size) := HW28.out.size
          clear hi1 hi2 hi3 hi4
          apply wp_region_relyL [4] (fun _ w' => Below w8.heap.size w8 w') (RL [CapL w8.heap.size 176 zer, CapL w8.heap.size 1 [1], OwnL w8.heap.size 177 (zer ++ [1]), Is (.slice A n c), OwnL w8.heap.size (177 + n) ((zer ++ [1]) ++ l), NewP2 (pdH 3 l), VarP w8.heap.size #[.int .u16 0, .bool false, .int .i64 0, .int .u8 0, .int .u8 0, .int .u8 0, .int .u8 0, .int .u8 0, .int .u8 0, .int .u8 0, .int .u8 0, .int .u8 0, .int .u8 0, .slice none 0 0]]) [false, false, false, false, false, false, false, false, false, false, false, false, false, false, false, false, false, false, false, false, false, false, false, false, true, false, false, false, false, false, false, false, false, false, false, false, false, false, false, false, false, false, false, false, false, false, false, false, false, false, false, false, false, false, false, false, false, false, false, false, false, false, false, false, false, false, false, false, false, false, false, false, false, false, false, false, false, false, false, false, false, false, false, false, false, false, false, false, false, false, false, false, false, false, false, false, false, false, false, false, true, true, true, true, true, true, false, false, false, false, false, false, false, false, false, false, false, false, false, false, false, false, false, false, false] _ rfl
          · kernel_rfl
          · kernel_rfl
          · kernel_rfl
          · kernel_rfl
          · refine ⟨?_, ?_, ?_, ?_, ?_, ?_, ?_, trivial⟩
            · intro L ev w' hC hL hx K hK
              have HK := Lib.hid hK
              have HC := Lib.hid hC
              have HL4 := Lib.hid hL
              have HX := Lib.hid hx
              have hc := hx.cst
              skip
              clear hx hK hC hL
              have hmk := make_row 176 (by decide) w'
              have hmk2 : (Instr.makeSlice 25 (.int .i64 176) (.int .i64 176)).run Try.prog w' = _ := hmk
              have HSZ := Lib.hid HC.out.size
              clear hmk
              unfold Run
              simp [execOp, Upon, go_sem, *]
              exact HK.out _ _ (.inl ⟨(Below.refl _ _).alloc (Nat.le_refl _) _, by decide⟩) ⟨_, rfl, own_lit w' (cells zer) _ _ _ 176 rfl HSZ.out (by decide) (by rw [cells_length, zer_len])⟩
            · intro L ev w' hC hL hx K hK
              have HK := Lib.hid hK
              have HC := Lib.hid hC
              have HL4 := Lib.hid hL
              have HX := Lib.hid hx
              have hc := hx.cst
              skip
              clear hx hK hC hL
              have HSZ := Lib.hid HC.out.size
              unfold Run
              simp [execOp, Upon, go_sem, *]
              exact HK.out _ _ (.inl ⟨(Below.refl _ _).alloc (Nat.le_refl _) _, by decide⟩) ⟨_, rfl, own_lit w' (cells [1]) _ _ _ 1 rfl HSZ.out (by decide) rfl⟩
            · intro L ev w' hC hL hx K hK
              have e100 := hx.held 0 _ rfl (by kernel_rfl)
              have e101 := hx.held 1 _ rfl (by kernel_rfl)
              change (CapL w8.heap.size 176 zer : Pred) (ev (.tmp 100)) w' at e100
              change (CapL w8.heap.size 1 [1] : Pred) (ev (.tmp 101)) w' at e101
              have HK := Lib.hid hK
              have HC := Lib.hid hC
              have HL4 := Lib.hid hL
              have HX := Lib.hid hx
              have hc := hx.cst
              skip
              clear hx hK hC hL
              obtain ⟨g0, q100, r100⟩ := e100
              obtain ⟨g1, q101, r101⟩ := e101
              obtain ⟨v', w2, hrun, r1, r2⟩ := run_append_arg_grows (P := Try.prog) w' 25 25 5 iU (.int .u8 0) 1 1 Try.underlying25 HIU.out HZU.out HSU.out HBU.out HZS.out (by omega) ⟨g0, 0, none⟩ 176 176 (cells zer) (by rw [cells_length, zer_len]) (loads_own r100) ⟨g1, 0, none⟩ 1 1 (cells [1]) rfl (loads_own r101) (by omega) (by unfold maxLen; omega) (by omega)
              have hbl : Below w'.heap.size w' w2 := ⟨r2.os, r2.tape, r2.output, r2.size, fun k hk => r2.block k hk (by simp)⟩
              unfold Run
              rw [run_appendE _ _ 25 rfl q100 q101 hrun]
              refine HK.out _ _ (.inl ⟨hbl, by decide⟩) ?_
              rcases r1.2 with ⟨he, h0⟩ | ⟨g, cap, cur, he, _⟩
              · omega
              · subst he
                rw [← cells_append] at r1
                exact ⟨g, cap, rfl, own_base r1 HC.out.size⟩
            · intro L ev w' hC hL hx K hK
              have e2 : ev (.tmp 2) = _ := hx.base 2 (by kernel_rfl)
              have HK := Lib.hid hK
              have HC := Lib.hid hC
              have HL4 := Lib.hid hL
              have HX := Lib.hid hx
              have hc := hx.cst
              skip
              clear hx hK hC hL
              have cM : w'.cell? ⟨w.heap.size, 0, none⟩ = some (.slice A n c) := by rw [World.cell?_of_block (HC.out.block w.heap.size (row_lt HG8.out))]; exact cell_of_row _ _ 0 _ _ _ HG8.out
              unfold Run
              simp [execOp, Upon, go_sem, *]
              exact HK.out _ _ (.inl ⟨Below.refl _ _, by decide⟩) rfl
            · intro L ev w' hC hL hx K hK
              have e102 := hx.held 2 _ rfl (by kernel_rfl)
              have e103 := hx.held 3 _ rfl (by kernel_rfl)
              change (OwnL w8.heap.size 177 (zer ++ [1]) : Pred) (ev (.tmp 102)) w' at e102
              change ev (.tmp 103) = _ at e103
              have HK := Lib.hid hK
              have HC := Lib.hid hC
              have HL4 := Lib.hid hL
              have HX := Lib.hid hx
              have hc := hx.cst
              skip
              clear hx hK hC hL
              obtain ⟨g, c6, q102, r102⟩ := e102
              have q103 : ev (.tmp 103) = .slice A n c := e103
              obtain ⟨v', w2, hrun, r1, r2, r3, r4⟩ := app_three (P := Try.prog) (ty := 25) Try.underlying25 HIU.out HZU.out HSU.out HBU.out HZS.out r102 HA.out (by rw [cells_length, HL.out]) (HR8.out.below HC.out (Nat.le_trans HWS.out (Nat.le_refl _))) (cells_one l) (by unfold maxLen; omega) (by omega) HC.out.size
              unfold Run
              rw [run_appendE _ _ 25 rfl q102 q103 hrun]
              have n5 : ¬ L 5 = true := fun h => by have := HX.out.closed 5 _ 4 rfl h (by kernel_rfl); rw [HL4.out] at this; cases this
              refine HK.out _ _ (.inr ⟨HC.out.trans r3, fun j hj hlj u hr => ?_⟩) ?_
              · rcases j with _ | _ | _ | _ | _ | _ | _ | j
                · exact capL_kept hr r102 (by decide) r4
                · exact capL_kept hr r102 (by decide) r4
                · obtain ⟨g2, c2, h1, h2⟩ := hr
                  exact ⟨g2, c2, h1, r2 _ h2⟩
                · exact hr
                · exact absurd rfl hj
                · exact absurd hlj n5
                · obtain ⟨g2, h1, h2, h3⟩ := hr
                  obtain ⟨C, hC⟩ := ownk_cells_of r102 (g := g) rfl
                  refine ⟨g2, h1, h2, (r4.block _ (row_lt h3) (fun he => ?_)).trans h3⟩
                  injection he with he
                  subst he
                  rw [hC] at h3
                  injection h3 with h3
                  injection h3 with _ h4
                  exact absurd h4 (by decide)
                · exact trivial
              · rcases r1.2 with ⟨he, h0⟩ | ⟨g', cap, cur, he, _⟩
                · omega
                · subst he
                  rw [← cells_append] at r1
                  exact ⟨g', cap, rfl, r1⟩
            · intro L ev w' hC hL hx K hK
              have e104 := hx.held 4 _ rfl (by kernel_rfl)
              change (OwnL w8.heap.size (177 + n) ((zer ++ [1]) ++ l) : Pred) (ev (.tmp 104)) w' at e104
              have HK := Lib.hid hK
              have HC := Lib.hid hC
              have HL4 := Lib.hid hL
              have HX := Lib.hid hx
              have hc := hx.cst
              skip
              clear hx hK hC hL
              obtain ⟨g, c6, q104, r104⟩ := e104
              have HRR := Lib.hid r104
              clear r104
              unfold Run
              simp [execOp, Upon, go_sem, *]
              refine HK.out _ _ (.inl ⟨Below.refl _ _, by decide⟩) ⟨_, rfl, .slice (some ⟨g, 0, none⟩) (177 + n) c6, rfl, ⟨show 3 < 65536 by decide, rfl, rfl⟩, ⟨show (-9223372036854775808 : Int) ≤ 0 by decide, show (0 : Int) ≤ 9223372036854775807 by decide⟩, some ⟨g, 0, none⟩, c6, ?_, ?_, ?_, (own_cap HRR.out).2, fun h => by cases h⟩
              · rw [pd_len, HL.out]
              · have := (Tr.own HRR.out).wide (Nat.zero_le _)
                rw [List.append_assoc] at this
                exact this
              · rw [pd_len, HL.out]
                exact (own_cap HRR.out).1
            · intro L ev w' hC hL hx K hK
              have HK := Lib.hid hK
              have HC := Lib.hid hC
              have HL4 := Lib.hid hL
              have HX := Lib.hid hx
              have hc := hx.cst
              skip
              clear hx hK hC hL
              have HSZ := Lib.hid HC.out.size
              unfold Run
              simp [execOp, Upon, go_sem, *]
              exact HK.out _ _ (.inl ⟨(Below.refl _ _).alloc (Nat.le_refl _) _, by decide⟩) ⟨_, rfl, HSZ.out, heap_alloc_new w' _⟩
          · exact rl_mono ⟨capL_mono _ _ _, capL_mono _ _ _, ownL_mono _ _ _, is_mono _, ownL_mono _ _ _, newp2_mono _, varp_mono _ _, trivial⟩
          · exact fun _ _ _ _ h => h
          · exact fun _ w1 w2 hb h => h.trans (hb.mono h.size)
          · exact Below.refl _ _
          · simp
          intro us wr hG hH
          obtain ⟨-, -, -, -, -, h5, h6, -⟩ := hH
          simp only [fillM]
          change (NewP2 (pdH 3 l) : Pred) (us 105) wr at h5
          change (VarP w8.heap.size #[.int .u16 0, .bool false, .int .i64 0, .int .u8 0, .int .u8 0, .int .u8 0, .int .u8 0, .int .u8 0, .int .u8 0, .int .u8 0, .int .u8 0, .int .u8 0, .int .u8 0, .slice none 0 0] : Pred) (us 24) wr at h6
          generalize us 100 = v100
          generalize us 101 = v101
          generalize us 102 = v102
          generalize us 103 = v103
          generalize us 104 = v104
          generalize us 105 = v105 at h5 ⊢
          generalize us 24 = v24 at h6 ⊢
          obtain ⟨ds, rfl, hds⟩ := h5
          obtain ⟨g, rfl, hgB, hgz⟩ := h6
          have HDS9 : Hid (ds.size = 14) := by show _ = _; rw [← Array.length_toList]; exact hds.len
          refine wp_store_row 27 (.tmp 24) (.tmp 105) rfl g ds rfl rfl 27 #[.int .u16 0, .bool false, .int .i64 0, .int .u8 0, .int .u8 0, .int .u8 0, .int .u8 0, .int .u8 0, .int .u8 0, .int .u8 0, .int .u8 0, .int .u8 0, .int .u8 0, .slice none 0 0] hgz (size_pk HDS9.out) (by rw [HDS9.out]; rfl) (by have := hds.pkV.one; simpa using this) ?_
          have hk : Keeps wr (wr.setRow g ds) := Keeps.other hgz (by decide) fun j hj => setRow_other _ _ _ _ hj
          obtain ⟨vv, e1, e2, e3, e4⟩ := hds
          have hpt : PkT (wr.setRow g ds) 0 ds.toList (pdH 3 l) := ⟨vv, e1, e2, e3, e4.keeps hk⟩
          have hpv := hpt.pkV
          simp only [Array.toArray_toList] at hpv
          have HPV := Lib.hid hpv
          have HGZ := Lib.hid (setRow_heap wr g _ ds _ _ hgz)
          have HGB := Lib.hid (below_setRow hG hgB ds)
          clear hgz hk e1 e2 e3 e4 hpt hpv hG
          simp only [Act.put]
          go_wp2_with fail
          go_meet
          case rel => exact ⟨g, ds, rfl, HGZ, HPV, HGB⟩
        case rest =>
        obtain ⟨g, C, rfl, HGC, HPC, HBX⟩ := hcut
        have HYX := Lib.hid ((HBX.out.block _ (by have := (HB45.out.block _ (row_lt HY4.out)).trans HY4.out; exact row_lt this)).trans ((HB45.out.block _ (row_lt HY4.out)).trans HY4.out))
        have HPX := Lib.hid ((HPC3.out.below HB45.out HS4.out).below HBX.out (Nat.le_trans HS4.out HB45.out.size))
        have HCS : Hid (C.size = 14) := HPC.out.size
        obtain ⟨A7, c7, xs7, hv7, _⟩ := HHC5.out
        have hv8 : v5' = .slice A7 8 c7 := hv7
        subst hv8
        clear hv7
        go_wp2_with (first | refine wpList_load_rowg (by rfl) 27 _ rfl b4 rfl 27 es3 (0, 0) _ HYX.out Try.underlying27 rfl (size_pk HES3.out) ?_ | refine wpList_load_rowg (by rfl) 27 _ rfl g rfl 27 C (0, 0) _ HGC.out Try.underlying27 rfl (size_pk HCS.out) ?_)
        refine (same_any es3 C (pdH 3 l) (pdH 3 l) 0 b4 0 wc.heap.size wc HPX.out HPC.out (Nat.le_trans (Nat.le_trans HS4.out HB45.out.size) HBX.out.size) (Nat.le_refl _)).mono ?_
        rw [pkEq_self]
        rintro e' wz ⟨rfl, hbz⟩
        have HBZ := Lib.hid ((HB2.out.trans (HBC5.out.mono HB2.out.size)).trans ((HBX.out.trans (hbz.mono HBX.out.size)).mono (HB2.out.trans (HBC5.out.mono HB2.out.size)).size))
        clear hbz
        go_wp2
        go_ret
        exact ⟨rfl, HBZ.out⟩
      · have HAD : Hid (addP (stH 8) (p0H 99) 35 = ([HK 99 35], Pk.zero, false, 0)) := holds_old
        have HADS : Hid ((stH 8).length ≤ 8 ∧ ∀ h ∈ stH 8, h.got.length < 1000) := stH_small _ (Nat.le_refl _)
        go_wp2_with fail
        refine (piece_first 99 w.heap.size (by decide) wr).mono ?_
        rintro e' wa3 ⟨ds3, rfl, hds3, hba3⟩
        have HDS3 := Lib.hid hds3.pkV
        have HHA3 := Lib.hid (HH8.out.below hba3)
        have HBA3 := Lib.hid (HBR.out.trans (hba3.mono HBR.out.size))
        have HXA3 := Lib.hid hba3
        clear hds3 hba3
        go_wp2_with fail
        refine (add_any v5 (stH 8) ds3 (p0H 99) 0 wa3.heap.size 35 wa3 HHA3.out (HADS.out).1 (HADS.out).2 (by simpa using HDS3.out) (Nat.le_refl _) (p0_ok 99).1 (p0_ok 99).2.1 (p0_ok 99).2.2 (by decide)).mono ?_
        rw [HAD.out]
        rintro e' wb3 ⟨v3', es3, rfl, hh3, hp3, hbb3⟩
        have HBB3 := Lib.hid (HBA3.out.trans (hbb3.mono HBA3.out.size))
        have hbn3 : Below wb3.heap.size wb3 (wb3.alloc (.cells es3 27)) := (Below.refl _ _).alloc (Nat.le_refl _) _
        have HBC3 := Lib.hid (HBB3.out.trans (hbn3.mono HBB3.out.size))
        have HLO3 := Lib.hid (HXA3.out.trans ((hbb3.trans (hbn3.mono hbb3.size)).mono HXA3.out.size))
        have HHC3 := Lib.hid (hh3.below hbn3)
        have HPC3 := Lib.hid (hp3.below hbn3 (Nat.le_refl _))
        have HES3 : Hid (es3.size = 14) := hp3.size
        have HEO3 : Hid (es3.all (·.oneCell') = true) := hp3.one
        clear hh3 hp3 hbb3 hbn3
        obtain ⟨A7, c7, xs7, hv7, _⟩ := HHC3.out
        have hv8 : v3' = .slice A7 1 c7 := hv7
        subst hv8
        have HBF := Lib.hid (HB2.out.trans (HBC3.out.mono HB2.out.size))
        clear hv7
        go_wp2_with (first | refine wpList_store_new rfl 27 _ _ rfl wb3 #[.int .u16 0, .bool false, .int .i64 0, .int .u8 0, .int .u8 0, .int .u8 0, .int .u8 0, .int .u8 0, .int .u8 0, .int .u8 0, .int .u8 0, .int .u8 0, .int .u8 0, .slice none 0 0] es3 rfl rfl (size_pk HES3.out) (by rw [HES3.out]; rfl) HEO3.out ?_)
        go_ret
        exact ⟨rfl, HBF.out⟩
end Go.Proofs.Ytogplhdcicajgaa
