/-
  recvq.Clone: the same state, in memory of its own. Every state of not too many bytes.
-/
import Derived.Test.YtdgfhcojmfgimaaRda
import Derived.Test.YtdgfhcojmfgimaaRelyG
import Derived.Test.YtdgfhcojmfgimaaFld
import Derived.Test.YtdgfhcojmfgimaaVar
namespace Go.Proofs.Ytdgfhcojmfgimaa
open Go.RowKit

def Zrq : Array Value := #[.int .u32 0, .slice none 0 0, .slice none 0 0, .bool false, .int .u32 0, .bool false]
/-- a block of pieces is written, all others stand -/
def SetS (g : Nat) (w w' : World) : Prop := (∃ C, w.heap[g]? = some (.cells C 55 (0, 0))) ∧ ∀ k, k ≠ g → w'.heap[k]? = w.heap[k]?
theorem TB.setS {w w' : World} {g lo : Nat} {l : List UInt8} {v : Value} (h : TB w lo l v) (hs : SetS g w w') : TB w' lo l v := by
  obtain ⟨⟨C, hC⟩, hk⟩ := hs
  refine h.keep fun A hA => hA.keep fun g' D _ hg' => hk g' fun he => ?_
  subst he
  rw [hC] at hg'
  injection hg' with hg'
  injection hg' with _ h2
  exact absurd h2 (by decide)
def NewB (lo : Nat) (l : List UInt8) : Pred := fun v w => TB w lo l v
theorem newb_mono (lo : Nat) (l : List UInt8) : Mono (NewB lo l) := fun _ _ _ hb h => TB.below h hb (Nat.le_refl _)
theorem newb_sg (g lo : Nat) (l : List UInt8) : StableG (SetS g) (NewB lo l) := fun _ _ _ hs h => TB.setS h hs
/-- pieces of which the first k have bytes of the call's own -/
def Mix (lo k : Nat) (w : World) (us : List Value) (ps : List Pc) (xs : List Value) : Prop :=
  ∀ (i : Nat) p, ps[i]? = some p → xs[i * 2]? = some (.int .u32 p.seq) ∧ ∃ v, xs[i * 2 + 1]? = some v ∧ (i < k → TB w lo p.data v) ∧ (k ≤ i → us[i * 2 + 1]? = some v)
section
variable {lo k : Nat} {w w' : World} {us xs : List Value} {ps : List Pc}
theorem mix_keeps (h : Mix lo k w us ps xs) (hk : Keeps w w') : Mix lo k w' us ps xs := fun i p hp => by
  obtain ⟨h1, v, h2, h3, h4⟩ := h i p hp
  exact ⟨h1, v, h2, fun hi => (h3 hi).keeps hk, h4⟩
theorem mix_setS {g : Nat} (h : Mix lo k w us ps xs) (hs : SetS g w w') : Mix lo k w' us ps xs := fun i p hp => by
  obtain ⟨h1, v, h2, h3, h4⟩ := h i p hp
  exact ⟨h1, v, h2, fun hi => (h3 hi).setS hs, h4⟩
theorem mix_set {g : Nat} {p : Pc} {v : Value} (h : Mix lo k w us ps xs) (hp : ps[k]? = some p) (hv : TB w lo p.data v) (hs : SetS g w w') (hl : k * 2 + 1 < xs.length) : Mix lo (k + 1) w' us ps (xs.set (k * 2 + 1) v) := fun i p' hp' => by
  obtain ⟨h1, u, h2, h3, h4⟩ := h i p' hp'
  refine ⟨by rw [List.getElem?_set_ne (by omega)]; exact h1, ?_⟩
  by_cases hik : i = k
  · subst hik
    rw [hp] at hp'
    injection hp' with hp'
    subst hp'
    exact ⟨v, by rw [List.getElem?_set_self hl], fun _ => hv.setS hs, fun hi => by omega⟩
  · exact ⟨u, by rw [List.getElem?_set_ne (by omega)]; exact h2, fun hi => (h3 (by omega)).setS hs, fun hi => h4 (by omega)⟩
theorem mix_done (h : Mix lo k w us ps xs) (hk : k = ps.length) (hl : xs.length = ps.length * 2) : RowOf 2 (PcT lo w) xs ps := ⟨hl, fun i p hp => by
  obtain ⟨h1, v, h2, h3, _⟩ := h i p hp
  have hi := (List.getElem?_eq_some_iff.1 hp).1
  refine ⟨v, ?_, h3 (by omega)⟩
  have e1 : xs.drop (i * 2) = xs[i * 2]'(by omega) :: xs.drop (i * 2 + 1) := List.drop_eq_getElem_cons (by omega)
  have e2 : xs.drop (i * 2 + 1) = xs[i * 2 + 1]'(by omega) :: xs.drop (i * 2 + 1 + 1) := List.drop_eq_getElem_cons (by omega)
  rw [e1, e2, List.take_succ_cons, List.take_succ_cons, List.take_zero]
  rw [List.getElem?_eq_getElem (by omega)] at h1 h2
  injection h1 with h1
  injection h2 with h2
  rw [h1, h2]⟩
theorem raw_at {S : Nat → Prop} (h : Rvs w S us (ps.flatMap pcD)) {i : Nat} {p : Pc} (hp : ps[i]? = some p) : us[i * 2]? = some (.int .u32 p.seq) ∧ ∃ v, us[i * 2 + 1]? = some v ∧ Rv w S v (bytesD p.data) := by
  have hf : ∀ a ∈ ps, (pcD a).length = 2 := fun _ _ => rfl
  have h0 := flat_at hf hp 0 (by omega)
  have h1 := flat_at hf hp 1 (by omega)
  have hi := (List.getElem?_eq_some_iff.1 h1).1
  have hl := h.1
  have g0 : us[i * 2]? = some (us[i * 2]'(by omega)) := List.getElem?_eq_getElem (by omega)
  have g1 : us[i * 2 + 1]? = some (us[i * 2 + 1]'(by omega)) := List.getElem?_eq_getElem (by omega)
  have r0 := h.2 _ _ _ g0 h0
  have r1 := h.2 _ _ _ g1 h1
  exact ⟨by rw [g0, (rv_val.1 r0).1], _, g1, r1⟩
theorem ownb_setS {g base n : Nat} {v : Value} {l : List UInt8} (h : w.ownsRow base 5 1 v n (cells l)) (hs : SetS g w w') : w'.ownsRow base 5 1 v n (cells l) := by
  refine ⟨h.1, ?_⟩
  rcases h.2 with h | ⟨g', cap, cur, e, h1, h2, h3⟩
  · exact .inl h
  · refine .inr ⟨g', cap, cur, e, h1, (hs.2 g' fun he => ?_).trans h2, h3⟩
    subst he
    obtain ⟨C, hC⟩ := hs.1
    rw [hC] at h2
    injection h2 with h2
    injection h2 with _ h2
    exact absurd h2 (by decide)
theorem mix_start {S : Nat → Prop} {w0 : World} (h : Rvs w0 S us (ps.flatMap pcD)) : Mix lo 0 w us ps us := fun i p hp => by
  obtain ⟨h0, v, h1, _⟩ := raw_at h hp
  exact ⟨h0, v, h1, fun h => by omega, fun _ => h1⟩
end
set_option maxRecDepth 100000 in
set_option maxHeartbeats 4000000 in
theorem qclone_any (q : Rq) (cs : Array Value) (S : Nat → Prop) (w : World) (hr : Rvs w S cs.toList (rqD q)) (hd : q.data.length ≤ 1000) (hn9 : q.ahead.length ≤ 1000) (hp9 : ∀ p ∈ q.ahead, p.data.length ≤ 1000) : Calls Try.prog 21 #[.agg cs] w fun e w' => ∃ (cs' : Array Value) (lo2 : Nat), e = .returned (.agg cs') ∧ RqT w.heap.size lo2 w' cs' q ∧ w.heap.size ≤ lo2 ∧ lo2 ≤ w'.heap.size ∧ Below w.heap.size w w' := by
  have hr := rvs_tight hr
  obtain ⟨vD, vA, rfl, -⟩ := rq_of hr
  have hD := rq_data hr
  obtain ⟨A, c, us, rfl, hl, he, hA, hc, hm, hrd, hev⟩ := rv_row.1 (rq_ahead hr)
  obtain ⟨n, hn⟩ : ∃ n, q.ahead.length = n := ⟨_, rfl⟩
  rw [hn] at hl hc hn9 ⊢
  have HUS : Hid (Rvs w (fun b => S b ∧ b < w.heap.size) us (q.ahead.flatMap pcD)) := ⟨he, hev⟩
  have HN := Lib.hid hn
  have HRD : Hid (Rd w 0 w.heap.size A us) := RdS.rd hrd (fun _ h => ⟨Nat.zero_le _, h.2⟩)
  have HUL := Lib.hid hl
  have HD := Lib.hid hD
  have HAC := Lib.hid (And.intro hA (And.intro hc hm))
  have HDL := Lib.hid hd
  have HP9 := Lib.hid hp9
  clear hr hD hl he hA hc hm hrd hev hn hd hp9
  obtain ⟨w1, hw1⟩ : ∃ w1, (w.alloc (.cells (rqC q vD (.slice A n c)) 29)).alloc (.cells Zrq 29) = w1 := ⟨_, rfl⟩
  have HB : Hid (Below w.heap.size w w1) := by rw [← hw1]; exact ((Below.refl _ _).alloc (Nat.le_refl _) _).alloc (by simp) _
  have HX : Hid (w1.heap[w.heap.size]? = some (.cells (rqC q vD (.slice A n c)) 29 (0, 0))) := by rw [← hw1]; exact old_alloc (heap_alloc_new w _) _
  have HZ : Hid (w1.heap[w.heap.size + 1]? = some (.cells Zrq 29 (0, 0))) := by rw [← hw1]; exact new_at1 w _ _
  have HS1 : Hid (w1.heap.size = w.heap.size + 2) := by show _ = _; rw [← hw1]; simp
  have HW := Lib.hid hw1
  clear hw1
  go_enter Try.func21, Try.ntmps21
  go_upto_region 1 with (fail)
  change Code.wp _ _ _ _ ((w.alloc (.cells (rqC q vD (.slice A n c)) 29)).alloc (.cells Zrq 29))
  rw [HW.out]
  clear HW

  have c1 : w1.cell? ⟨w.heap.size, 1, none⟩ = some vD := by rw [cell_of_row _ _ _ _ _ _ HX.out]; rfl
  go_wp2_with fail
  refine (bclone_any vD q.data (fun b => S b ∧ b < w.heap.size) w1 (HD.out.kept HB.out (fun _ h => h.2)) (by have := HDL.out; omega)).mono ?_
  rintro e w2 ⟨vD1, rfl, hv, hb2⟩
  have HV2 : Hid (w2.ownsRow w.heap.size 5 1 vD1 q.data.length (cells q.data)) := ownk_base hv (by have := HS1.out; omega)
  obtain ⟨lo2, hlo2⟩ : ∃ lo2, w2.heap.size = lo2 := ⟨_, rfl⟩
  have HVL : Hid (∀ g, vD1.ownBlock = some g → g < lo2) := fun g hg => by rw [← hlo2]; exact (hv.lt g hg).2
  have HV21 : Hid (vD1.oneCell' = true) := (own_tb hv).one
  have HX2 : Hid (w2.heap[w.heap.size]? = some (.cells (rqC q vD (.slice A n c)) 29 (0, 0))) := old_below HX.out hb2 (row_lt HX.out)
  have HZ2 : Hid (w2.heap[w.heap.size + 1]? = some (.cells Zrq 29 (0, 0))) := old_below HZ.out hb2 (row_lt HZ.out)
  have HB2 := Lib.hid (HB.out.trans (hb2.mono HB.out.size))
  have HS2 : Hid (w.heap.size + 2 ≤ w2.heap.size) := by have := hb2.size; have := HS1.out; show _ ≤ _; omega
  have HL2 := Lib.hid hlo2
  clear hv hb2 c1 HX HZ hlo2
  go_upto_region 2 with (first | (refine wpList_store_fld rfl 26 _ _ rfl (w.heap.size) 1 rfl (vD1) rfl 29 (rqC q vD (.slice A n c)) HX2.out (by show 1 < 6; omega) (by kernel_rfl) (HV21.out) (rqC q vD1 (.slice A n c)) rfl ?_; obtain ⟨w3, hw3⟩ : ∃ x, w2.setRow (w.heap.size) (rqC q vD1 (.slice A n c)) = x := ⟨_, rfl⟩; have HXw3 : Hid (w3.heap[w.heap.size]? = some (.cells (rqC q vD1 (.slice A n c)) 29 (0, 0))) := (by rw [← hw3]; exact setRow_heap _ _ _ _ _ _ HX2.out); have HZ2w3 : Hid (w3.heap[w.heap.size + 1]? = some (.cells (Zrq) 29 (0, 0))) := (by rw [← hw3]; exact (setRow_other _ _ _ _ (by omega)).trans HZ2.out); have HBw3 : Hid (Below w.heap.size w w3) := (by rw [← hw3]; exact below_setRow HB2.out (Nat.le_refl _) _); have HKw3 : Hid (Keeps w2 w3) := (by rw [← hw3]; exact Keeps.other HX2.out (by decide) fun j hj => setRow_other _ _ _ _ hj); have HSZw3 : Hid (w2.heap.size ≤ w3.heap.size) := (by show w2.heap.size ≤ w3.heap.size; rw [← hw3]; simp [World.setRow]); have HWw3 := Lib.hid hw3; clear hw3; rw [HWw3.out]; clear HWw3) | go_in)
  have HV3 := Lib.hid (ownb_keeps (.inl rfl) HV2.out HKw3.out)
  have HS3 : Hid (lo2 ≤ w3.heap.size) := by show _ ≤ _; rw [← HL2.out]; exact HSZw3.out
  have HL22 : Hid (w.heap.size + 2 ≤ lo2) := by have := HS2.out; have := HL2.out; show _ ≤ _; omega
  have c2 : w3.cell? ⟨w.heap.size, 2, none⟩ = some (.slice A n c) := by rw [cell_of_row _ _ _ _ _ _ HXw3.out]; rfl
  go_wp2_with fail
  refine (pclone_any A n c w.heap.size us w3 (HRD.out.below HBw3.out (Nat.le_refl _)) HBw3.out.size HUL.out HUS.out.ones HAC.out.1 HAC.out.2.1 (by omega)).mono ?_
  rintro e w4 ⟨v4, rfl, hown, hb4⟩
  have HX4 : Hid (w4.heap[w.heap.size]? = some (.cells (rqC q vD1 (.slice A n c)) 29 (0, 0))) := old_below HXw3.out hb4 (row_lt HXw3.out)
  have HZ4 : Hid (w4.heap[w.heap.size + 1]? = some (.cells Zrq 29 (0, 0))) := old_below HZ2w3.out hb4 (row_lt HZ2w3.out)
  have HB4 := Lib.hid (HBw3.out.trans (hb4.mono HBw3.out.size))
  have HV4 := Lib.hid (ownb_keeps (.inl rfl) HV3.out (Keeps.below hb4 (Nat.le_refl _)))
  have HS4 : Hid (lo2 ≤ w4.heap.size) := Nat.le_trans HS3.out hb4.size
  have HO4 : Hid (w4.ownsRow lo2 55 2 v4 n us) := ownk_base hown HS3.out
  have HV41 : Hid (v4.oneCell' = true) := by obtain ⟨_, _, e, _⟩ := ownk_form hown; rw [e]; rfl
  clear hown hb4 c2 HXw3 HZ2w3
  go_upto_region 3 with (first | (refine wpList_store_fld rfl 27 _ _ rfl (w.heap.size) 2 rfl (v4) rfl 29 (rqC q vD1 (.slice A n c)) HX4.out (by show 2 < 6; omega) (by kernel_rfl) (HV41.out) (rqC q vD1 v4) rfl ?_; obtain ⟨w5, hw5⟩ : ∃ x, w4.setRow (w.heap.size) (rqC q vD1 v4) = x := ⟨_, rfl⟩; have HXw5 : Hid (w5.heap[w.heap.size]? = some (.cells (rqC q vD1 v4) 29 (0, 0))) := (by rw [← hw5]; exact setRow_heap _ _ _ _ _ _ HX4.out); have HZ4w5 : Hid (w5.heap[w.heap.size + 1]? = some (.cells (Zrq) 29 (0, 0))) := (by rw [← hw5]; exact (setRow_other _ _ _ _ (by omega)).trans HZ4.out); have HBw5 : Hid (Below w.heap.size w w5) := (by rw [← hw5]; exact below_setRow HB4.out (Nat.le_refl _) _); have HKw5 : Hid (Keeps w4 w5) := (by rw [← hw5]; exact Keeps.other HX4.out (by decide) fun j hj => setRow_other _ _ _ _ hj); have HSZw5 : Hid (w4.heap.size ≤ w5.heap.size) := (by show w4.heap.size ≤ w5.heap.size; rw [← hw5]; simp [World.setRow]); have HWw5 := Lib.hid hw5; clear hw5; rw [HWw5.out]; clear HWw5) | go_in)
  have HV5 := Lib.hid (ownb_keeps (.inl rfl) HV4.out HKw5.out)
  have HS5 : Hid (lo2 ≤ w5.heap.size) := Nat.le_trans HS4.out HSZw5.out
  have HO5 : Hid (w5.ownsRow lo2 55 2 v4 n us) := ownb_keeps (.inr rfl) HO4.out HKw5.out
  obtain ⟨A5, c5, rfl, hc51, hc52, hc53⟩ := ownk_form HO5.out
  have HC5 := Lib.hid (And.intro hc51 (And.intro hc52 hc53))
  have c2 : w5.cell? ⟨w.heap.size, 2, none⟩ = some (.slice A5 n c5) := by rw [cell_of_row _ _ _ _ _ _ HXw5.out]; rfl
  clear hc51 hc52 hc53
  go_wp2
  clear c2
  go_loopw [15] (fun t15 wr => ∃ (k : Nat) (xs : List Value), k ≤ n ∧ t15 = .int .i64 (k : Int) ∧ Hid (wr.ownsRow lo2 55 2 (.slice A5 n c5) n xs) ∧ Hid (Mix lo2 k wr us q.ahead xs) ∧ Hid (Below w.heap.size w wr) ∧ Hid (wr.heap[w.heap.size]? = some (.cells (rqC q vD1 (.slice A5 n c5)) 29 (0, 0))) ∧ Hid (wr.heap[w.heap.size + 1]? = some (.cells Zrq 29 (0, 0))) ∧ Hid (wr.ownsRow w.heap.size 5 1 vD1 q.data.length (cells q.data)) ∧ Hid (lo2 ≤ wr.heap.size)) (fun t15 _ => n - (intOf t15).toNat)
  case atStart => exact ⟨0, us, Nat.zero_le _, rfl, HO5, Lib.hid (mix_start HUS.out), HBw5, HXw5, HZ4w5, HV5, HS5⟩
  case round =>
    obtain ⟨k, xs, hk, rfl, HOWN, HMIX, HBEL, HBX, HBY, HBV, HBL⟩ := hrel
    by_cases hlt : k < n
    · obtain ⟨pk, hpk⟩ : ∃ pk, q.ahead[k]? = some pk := ⟨_, List.getElem?_eq_getElem (by rw [HN.out]; exact hlt)⟩
      obtain ⟨_, vk, hvk, _, hvu⟩ := HMIX.out k pk hpk
      obtain ⟨_, vu, hvu2, hru⟩ := raw_at HUS.out hpk
      have hvk2 := hvu (Nat.le_refl _)
      rw [hvu2] at hvk2
      injection hvk2 with hvk2
      subst hvk2
      obtain ⟨l, hl⟩ : ∃ l, pk.data = l := ⟨_, rfl⟩
      obtain ⟨g, cc, cur, hg, _⟩ := ownk_some HOWN.out (by omega)
      injection hg with hg1 hg2 hg3
      subst hg1 hg3
      have HLL : Hid (l.length ≤ 1000000) := by have := HP9.out pk (List.mem_of_getElem? hpk); rw [hl] at this; show _ ≤ _; omega
      have HVK := Lib.hid hvk
      have HRK : Hid (∀ w', Below w.heap.size w w' → Rv w' (fun b => S b ∧ b < w.heap.size) vu (bytesD l)) := fun w' hb => by rw [← hl]; exact hru.kept hb (fun _ h => h.2)
      have HVO : Hid (vu.oneCell' = true) := hru.one
      have HPK : Hid (q.ahead[k]? = some ⟨pk.seq, l⟩) := by show _ = _; rw [hpk, ← hl]
      have HXL : Hid (xs.length = n * 2) := HOWN.out.1
      obtain ⟨vk, hvk0⟩ : ∃ vk, vk = vu := ⟨_, rfl⟩
      rw [← hvk0] at HVK HRK HVO
      obtain ⟨B, hB⟩ : ∃ B, wr.heap.size = B := ⟨_, rfl⟩
      have HBS := Lib.hid hB
      have HBL2 : Hid (lo2 ≤ B) := by show _ ≤ _; rw [← hB]; exact HBL.out
      clear hpk hvk hl hB hvu hvu2 hru hvk0
      go_wp2_with fail
      apply wp_region_relyG [12] (fun L w' => Below w.heap.size w w' ∧ w'.heap[w.heap.size]? = some (.cells (rqC q vD1 (.slice (some ⟨g, 0, none⟩) n c5)) 29 (0, 0)) ∧ B ≤ w'.heap.size ∧ w'.heap[w.heap.size + 1]? = some (.cells Zrq 29 (0, 0)) ∧ (L 12 = false → w'.ownsRow lo2 55 2 (.slice (some ⟨g, 0, none⟩) n c5) n xs) ∧ Mix lo2 k w' us q.ahead xs ∧ (L 12 = true → ∃ xs', w'.ownsRow lo2 55 2 (.slice (some ⟨g, 0, none⟩) n c5) n xs' ∧ Mix lo2 (k + 1) w' us q.ahead xs') ∧ w'.ownsRow w.heap.size 5 1 vD1 q.data.length (cells q.data)) (RL [Is _, Is (.slice (some ⟨g, 0, none⟩) n c5), Is _, Is _, Is (.slice (some ⟨g, 0, none⟩) n c5), Is _, Is (.pointer (some ((⟨g, 0, none⟩ : Addr).add (k * 2)))), Is (.pointer (some ⟨g, k * 2 + 1, none⟩)), Is vk, NewB lo2 l, Is (.pointer (some ((⟨g, 0, none⟩ : Addr).add (k * 2)))), Is (.pointer (some ⟨g, k * 2 + 1, none⟩)), Any]) [false, false, false, false, false, false, false, false, false, false, false, false, false, false, false, false, false, false, true, true, true, true, true, true, true, true, true, true, true, true, false, false]
      · kernel_rfl
      · kernel_rfl
      · kernel_rfl
      · refine ⟨?_, ?_, ?_, ?_, ?_, ?_, ?_, ?_, ?_, ?_, ?_, ?_, ?_, trivial⟩
        · intro L ev w' hC hL hx K hK
          have e1 : ev (.tmp 1) = _ := hx.base 1 (by kernel_rfl)
          have HK := Lib.hid hK
          have HC := Lib.hid hC
          have HL := Lib.hid hL
          have HX6 := Lib.hid hx
          have hc := hx.cst
          skip
          clear hx hK hC hL
          unfold Run
          simp [execOp, Upon, go_sem, *]
          exact HK.out _ _ (.inl ⟨Below.refl _ _, by decide⟩) rfl
        · intro L ev w' hC hL hx K hK
          have e18 := hx.held 0 _ rfl (by kernel_rfl)
          change ev (.tmp 18) = _ at e18
          have HK := Lib.hid hK
          have HC := Lib.hid hC
          have HL := Lib.hid hL
          have HX6 := Lib.hid hx
          have hc := hx.cst
          skip
          clear hx hK hC hL
          have c2 := cell_of_row _ _ 2 _ _ _ HC.out.2.1
          rw [show (rqC q vD1 (.slice (some ⟨g, 0, none⟩) n c5))[2]? = some (.slice (some ⟨g, 0, none⟩) n c5) from rfl] at c2
          unfold Run
          simp [execOp, Upon, go_sem, *]
          exact HK.out _ _ (.inl ⟨Below.refl _ _, by decide⟩) rfl
        · intro L ev w' hC hL hx K hK
          have e3 : ev (.tmp 3) = _ := hx.base 3 (by kernel_rfl)
          have HK := Lib.hid hK
          have HC := Lib.hid hC
          have HL := Lib.hid hL
          have HX6 := Lib.hid hx
          have hc := hx.cst
          skip
          clear hx hK hC hL
          unfold Run
          simp [execOp, Upon, go_sem, *]
          exact HK.out _ _ (.inl ⟨Below.refl _ _, by decide⟩) rfl
        · intro L ev w' hC hL hx K hK
          have e1 : ev (.tmp 1) = _ := hx.base 1 (by kernel_rfl)
          have HK := Lib.hid hK
          have HC := Lib.hid hC
          have HL := Lib.hid hL
          have HX6 := Lib.hid hx
          have hc := hx.cst
          skip
          clear hx hK hC hL
          unfold Run
          simp [execOp, Upon, go_sem, *]
          exact HK.out _ _ (.inl ⟨Below.refl _ _, by decide⟩) rfl
        · intro L ev w' hC hL hx K hK
          have e21 := hx.held 3 _ rfl (by kernel_rfl)
          change ev (.tmp 21) = _ at e21
          have HK := Lib.hid hK
          have HC := Lib.hid hC
          have HL := Lib.hid hL
          have HX6 := Lib.hid hx
          have hc := hx.cst
          skip
          clear hx hK hC hL
          have c2 := cell_of_row _ _ 2 _ _ _ HC.out.2.1
          rw [show (rqC q vD1 (.slice (some ⟨g, 0, none⟩) n c5))[2]? = some (.slice (some ⟨g, 0, none⟩) n c5) from rfl] at c2
          unfold Run
          simp [execOp, Upon, go_sem, *]
          exact HK.out _ _ (.inl ⟨Below.refl _ _, by decide⟩) rfl
        · intro L ev w' hC hL hx K hK
          have e3 : ev (.tmp 3) = _ := hx.base 3 (by kernel_rfl)
          have HK := Lib.hid hK
          have HC := Lib.hid hC
          have HL := Lib.hid hL
          have HX6 := Lib.hid hx
          have hc := hx.cst
          skip
          clear hx hK hC hL
          unfold Run
          simp [execOp, Upon, go_sem, *]
          exact HK.out _ _ (.inl ⟨Below.refl _ _, by decide⟩) rfl
        · intro L ev w' hC hL hx K hK
          have e22 := hx.held 4 _ rfl (by kernel_rfl)
          have e23 := hx.held 5 _ rfl (by kernel_rfl)
          change ev (.tmp 22) = _ at e22
          change ev (.tmp 23) = _ at e23
          have HK := Lib.hid hK
          have HC := Lib.hid hC
          have HL := Lib.hid hL
          have HX6 := Lib.hid hx
          have hc := hx.cst
          skip
          clear hx hK hC hL
          unfold Run
          rw [run_indexE 27 _ _ rfl Try.underlying27 (size := 2) (by kernel_rfl) e22 e23 hlt]
          exact HK.out _ _ (.inl ⟨Below.refl _ _, by decide⟩) rfl
        · intro L ev w' hC hL hx K hK
          have e24 := hx.held 6 _ rfl (by kernel_rfl)
          change ev (.tmp 24) = _ at e24
          have HK := Lib.hid hK
          have HC := Lib.hid hC
          have HL := Lib.hid hL
          have HX6 := Lib.hid hx
          have hc := hx.cst
          skip
          clear hx hK hC hL
          have q1 : ev (.tmp 24) = .pointer (some ⟨g, k * 2, none⟩) := by rw [e24, Addr.add_mid, Nat.zero_add]
          unfold Run
          simp [execOp, Upon, go_sem, q1]
          exact HK.out _ _ (.inl ⟨Below.refl _ _, by decide⟩) rfl
        · intro L ev w' hC hL hx K hK
          have e25 := hx.held 7 _ rfl (by kernel_rfl)
          change ev (.tmp 25) = _ at e25
          have HK := Lib.hid hK
          have HC := Lib.hid hC
          have HL := Lib.hid hL
          have HX6 := Lib.hid hx
          have hc := hx.cst
          skip
          clear hx hK hC hL
          have hl12 : L 12 = false := Bool.eq_false_iff.2 fun h => by
            have h1 := HX6.out.closed 12 _ 9 rfl h (by kernel_rfl)
            have h2 := HX6.out.closed 9 _ 8 rfl h1 (by kernel_rfl)
            rw [HL.out] at h2
            cases h2
          have hcl := (HC.out.2.2.2.2.1 hl12).cellAt (k * 2 + 1) (by omega)
          rw [HVK.out] at hcl
          clear hl12
          unfold Run
          simp [execOp, Upon, go_sem, *]
          exact HK.out _ _ (.inl ⟨Below.refl _ _, by decide⟩) rfl
        · intro L ev w' hC hL hx K hK
          have e26 := hx.held 8 _ rfl (by kernel_rfl)
          change ev (.tmp 26) = _ at e26
          have HK := Lib.hid hK
          have HC := Lib.hid hC
          have HL := Lib.hid hL
          have HX6 := Lib.hid hx
          have hc := hx.cst
          have hf := hx.fn
          clear hx hK hC hL
          have hcl := bclone_any vk l (fun b => S b ∧ b < w.heap.size) w' (HRK.out w' HC.out.1) HLL.out
          have hsz := Nat.le_trans HBL2.out HC.out.2.2.1
          have HCL := Lib.hid hcl
          clear hcl
          unfold Run
          simp [execOp, Upon, go_sem, *]
          refine HCL.out.mono ?_
          rintro e w2 ⟨v, rfl, hv, hb⟩
          exact ⟨v, rfl, HK.out _ _ (.inl ⟨hb, by decide⟩) ((own_tb hv).wide hsz)⟩
        · intro L ev w' hC hL hx K hK
          have e19 := hx.held 1 _ rfl (by kernel_rfl)
          have e20 := hx.held 2 _ rfl (by kernel_rfl)
          change ev (.tmp 19) = _ at e19
          change ev (.tmp 20) = _ at e20
          have HK := Lib.hid hK
          have HC := Lib.hid hC
          have HL := Lib.hid hL
          have HX6 := Lib.hid hx
          have hc := hx.cst
          skip
          clear hx hK hC hL
          unfold Run
          rw [run_indexE 27 _ _ rfl Try.underlying27 (size := 2) (by kernel_rfl) e19 e20 hlt]
          exact HK.out _ _ (.inl ⟨Below.refl _ _, by decide⟩) rfl
        · intro L ev w' hC hL hx K hK
          have e28 := hx.held 10 _ rfl (by kernel_rfl)
          change ev (.tmp 28) = _ at e28
          have HK := Lib.hid hK
          have HC := Lib.hid hC
          have HL := Lib.hid hL
          have HX6 := Lib.hid hx
          have hc := hx.cst
          skip
          clear hx hK hC hL
          have q1 : ev (.tmp 28) = .pointer (some ⟨g, k * 2, none⟩) := by rw [e28, Addr.add_mid, Nat.zero_add]
          unfold Run
          simp [execOp, Upon, go_sem, q1]
          exact HK.out _ _ (.inl ⟨Below.refl _ _, by decide⟩) rfl
        · intro L ev w' hC hL hx K hK
          have e27 := hx.held 9 _ rfl (by kernel_rfl)
          have e29 := hx.held 11 _ rfl (by kernel_rfl)
          change (NewB lo2 l : Pred) (ev (.tmp 27)) w' at e27
          change ev (.tmp 29) = _ at e29
          have HK := Lib.hid hK
          have HC := Lib.hid hC
          have HL := Lib.hid hL
          have HX6 := Lib.hid hx
          have hc := hx.cst
          skip
          clear hx hK hC hL
          have hown := HC.out.2.2.2.2.1 HL.out
          have HTB := Lib.hid e27
          obtain ⟨A5, c6, q23, t5, t6, t7, t8⟩ := e27
          have hcl := hown.cellAt (k * 2 + 1) (by omega)
          rw [HVK.out] at hcl
          have hfz := hown.frozenAt (k * 2 + 1)
          have hrun := run_store_cell (P := Try.prog) w' g (k * 2 + 1) 26 (.slice A5 l.length c6) vk (by kernel_rfl) rfl rfl hcl hfz
          have hst := hown.stored (k * 2 + 1) (.slice A5 l.length c6)
          have hty := ownk_cells_of hown (g := g) rfl
          have HKE : Hid (SetS g w' (w'.setCell ⟨g, k * 2 + 1, none⟩ (.slice A5 l.length c6))) := ⟨hty, fun j hj => heap_setCell_other _ _ _ _ hj⟩
          rw [q23] at HTB
          have HST := Lib.hid hst
          have HGG : Hid (w.heap.size + 2 ≤ g) := Nat.le_trans HL22.out (hown.lt g rfl).1
          have HC1 := Lib.hid HC.out.1
          have HC2 := Lib.hid HC.out.2.1
          have HC3 := Lib.hid HC.out.2.2.1
          have HC4 := Lib.hid HC.out.2.2.2.1
          have HC6 := Lib.hid HC.out.2.2.2.2.2.1
          have HC7 := Lib.hid HC.out.2.2.2.2.2.2.2
          clear hown hst hty t5 t6 t7 t8
          unfold Run
          rw [run_storeE 26 _ _ rfl e29 q23 hrun]
          refine HK.out _ _ (.inr ⟨⟨HC1.out.setCell (by have := HGG.out; simp only; omega) _, ?_, by simp; exact HC3.out, ?_, fun h => by simp [upd] at h, ?_, fun _ => ⟨_, HST.out.1, mix_set HC6.out HPK.out HTB.out HKE.out (by rw [HXL.out]; omega)⟩, ownb_setS HC7.out HKE.out⟩, fun j hj hlj u hr => rl_sg (S := SetS g) (ex := [12]) 0 (by exact ⟨.inr (is_sg _ _), .inr (is_sg _ _), .inr (is_sg _ _), .inr (is_sg _ _), .inr (is_sg _ _), .inr (is_sg _ _), .inr (is_sg _ _), .inr (is_sg _ _), .inr (is_sg _ _), .inr (newb_sg _ _ _), .inr (is_sg _ _), .inr (is_sg _ _), .inl rfl, trivial⟩) j u _ _ (by rw [Nat.zero_add]; simp [hj]) HKE.out hr⟩) trivial
          · rw [heap_setCell_other _ _ _ _ (by have := HGG.out; simp only; omega)]
            exact HC2.out
          · rw [heap_setCell_other _ _ _ _ (by have := HGG.out; simp only; omega)]
            exact HC4.out
          · exact mix_setS HC6.out HKE.out
      · exact rl_mono ⟨is_mono _, is_mono _, is_mono _, is_mono _, is_mono _, is_mono _, is_mono _, is_mono _, is_mono _, newb_mono _ _, is_mono _, is_mono _, any_mono, trivial⟩
      · exact fun L L' w1 he h => ⟨h.1, h.2.1, h.2.2.1, h.2.2.2.1, fun hl => h.2.2.2.2.1 ((he 12 (by simp)).trans hl), h.2.2.2.2.2.1, fun hl => h.2.2.2.2.2.2.1 ((he 12 (by simp)).trans hl), h.2.2.2.2.2.2.2⟩
      · exact fun L w1 w2 hb h => ⟨h.1.trans (hb.mono h.1.size), (hb.block _ (row_lt h.2.1)).trans h.2.1, Nat.le_trans h.2.2.1 hb.size, (hb.block _ (row_lt h.2.2.2.1)).trans h.2.2.2.1, fun hl => ownk_below (h.2.2.2.2.1 hl) hb (Nat.le_refl _), mix_keeps h.2.2.2.2.2.1 (Keeps.below hb (Nat.le_refl _)), fun hl => by obtain ⟨ys, h1, h2⟩ := h.2.2.2.2.2.2.1 hl; exact ⟨ys, ownk_below h1 hb (Nat.le_refl _), mix_keeps h2 (Keeps.below hb (Nat.le_refl _))⟩, ownk_below h.2.2.2.2.2.2.2 hb (Nat.le_refl _)⟩
      · exact ⟨HBEL.out, HBX.out, Nat.le_of_eq HBS.out.symm, HBY.out, fun _ => HOWN.out, HMIX.out, (fun h => by cases h), HBV.out⟩
      · simp
      intro us wr hG hH
      obtain ⟨-, -, -, -, -, -, -, -, -, -, -, -, -, -⟩ := hH
      simp only [fillM]
      generalize us 18 = v18
      generalize us 19 = v19
      generalize us 20 = v20
      generalize us 21 = v21
      generalize us 22 = v22
      generalize us 23 = v23
      generalize us 24 = v24
      generalize us 25 = v25
      generalize us 26 = v26
      generalize us 27 = v27
      generalize us 28 = v28
      generalize us 29 = v29
      obtain ⟨g1, g2, g3, g4, _, _, g5, g7⟩ := hG
      obtain ⟨ys, o1, o2⟩ := g5 rfl
      have HB5 := Lib.hid g1
      have HX5 := Lib.hid g2
      have HY5 := Lib.hid g4
      have HO5 := Lib.hid o1
      have HR5 := Lib.hid o2
      have HVB := Lib.hid g7
      have HBL3 : Hid (lo2 ≤ wr.heap.size) := Nat.le_trans HBL2.out g3
      go_wp2
      go_roundw
      case rel => exact ⟨k + 1, ys, by omega, by go_num, HO5, HR5, HB5, HX5, HY5, HVB, HBL3⟩
      case measure => simp [intOf]; omega
    · obtain rfl : k = n := by omega
      have HRO := Lib.hid (mix_done HMIX.out HN.out.symm (by rw [HN.out]; exact HOWN.out.1))
      have HO : Hid ((rqC q vD1 (.slice A5 k c5)).all (·.oneCell') = true) := by
        exact rqc_ones (own_tb HBV.out).one rfl
      go_wp2_with (first | (refine wpList_load_row rfl 29 _ rfl (w.heap.size) rfl 29 (rqC q vD1 (.slice A5 k c5)) (0, 0) _ HBX.out Try.underlying29 rfl (by kernel_rfl) ?_) | (refine wpList_store_row rfl 29 _ _ rfl (w.heap.size + 1) (rqC q vD1 (.slice A5 k c5)) rfl rfl 29 (Zrq) HBY.out (by kernel_rfl) rfl (HO.out) ?_))
      refine ret_one (g := w.heap.size + 1) rfl rfl (setRow_heap _ _ _ _ _ _ HBY.out) Try.underlying29 rfl (by kernel_rfl) rfl ?_
      have hkp : Keeps wr (wr.setRow (w.heap.size + 1) (rqC q vD1 (.slice A5 k c5))) := Keeps.other HBY.out (by decide) fun j hj => setRow_other _ _ _ _ hj
      refine ⟨_, lo2, rfl, ⟨_, _, rfl, ownb_keeps (.inl rfl) HBV.out hkp, HVL.out, PcsT.keeps ⟨A5, c5, xs, by rw [HN.out], Tr.own HOWN.out, HRO.out, by rw [HN.out]; exact HC5.out.1, HC5.out.2.1, HC5.out.2.2⟩ hkp⟩, by have := HL22.out; omega, by simp [World.setRow]; exact HBL.out, below_setRow HBEL.out (by omega) _⟩
end Go.Proofs.Ytdgfhcojmfgimaa
