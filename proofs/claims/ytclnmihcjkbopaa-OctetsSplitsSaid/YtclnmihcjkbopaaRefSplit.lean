/-
  The document's own answer for parts (caravelref01.Split), and the comparison of parts with texts (caravellaw01.same). Every text and every list of sizes, of at most a milliard each.
-/
import Derived.Test.YtclnmihcjkbopaaSplit
import Derived.Test.YtclnmihcjkbopaaRef
namespace Go.Proofs.Ytclnmihcjkbopaa
open Go.RowKit

theorem info9 : (Try.prog.info? 9).map (fun i => (i.zero, i.size, i.bytes)) = some (some (.string ⟨#[]⟩), 1, 16) := by kernel_rfl

theorem cut_to (l : List UInt8) (n : Nat) : (⟨l.toArray⟩ : ByteArray).extract 0 n = ⟨(l.take n).toArray⟩ := by
  apply ByteArray.ext
  rw [ByteArray.data_extract]
  simp
theorem cut_from (l : List UInt8) (n : Nat) : (⟨l.toArray⟩ : ByteArray).extract n l.length = ⟨(l.drop n).toArray⟩ := by
  apply ByteArray.ext
  rw [ByteArray.data_extract]
  simp
  exact List.take_of_length_le (by rw [List.length_drop]; exact Nat.le_refl _)

/-- what the document's Split leaves -/
def RefSplitPost (w : World) (r : List (List UInt8) × Int) (e : Ending) (w' : World) : Prop :=
  ∃ A c, e = .returned (.tuple #[.slice A r.1.length c, .int .i64 r.2]) ∧ w'.ownsRow w.heap.size 9 1 (.slice A r.1.length c) r.1.length (r.1.map txt) ∧ Below w.heap.size w w'
theorem refsplit_none {w wr : World} {r : List (List UInt8) × Int} {z : Int} (h : r = ([], z)) (hb : Below w.heap.size w wr) : RefSplitPost w r (.returned (.tuple #[.slice none 0 0, .int .i64 z])) wr := by
  subst h
  exact ⟨none, 0, rfl, World.ownsRow_nil _ _ _ _, hb⟩

set_option maxHeartbeats 1000000 in
theorem refsplit_any (A2 : Option Addr) (l : List UInt8) (zs : List Int) (c2 lo hi : Nat) (w : World) (h2 : Rd w lo hi A2 (ints zs)) (hhi : hi ≤ w.heap.size)
    (_hl : l.length ≤ 1000000000) (hz : zs.length ≤ 1000000000) :
    Calls Try.prog 14 #[txt l, .slice A2 zs.length c2] w (RefSplitPost w (splitS l zs)) := by
  obtain ⟨i0, hi0, hz0, hz1, hz2⟩ := info_parts info9
  go_enter Try.func14, Try.ntmps14
  go_wp2
  go_loopw [0, 6, 7] (fun b v i wr => ∃ (k : Nat) (l' : List UInt8) (acc : List (List UInt8)), k ≤ zs.length ∧ i = .int .i64 k ∧ b = txt l' ∧
      wr.ownsRow w.heap.size 9 1 v acc.length (acc.map txt) ∧ acc.length = k ∧ l'.length ≤ l.length ∧ Below w.heap.size w wr ∧ splitS l zs = splitGo acc l' (zs.drop k)) (fun _ _ i _ => zs.length - (intOf i).toNat)
  case atStart => exact ⟨0, l, [], Nat.zero_le _, rfl, rfl, World.ownsRow_nil _ _ _ _, rfl, Nat.le_refl _, Below.refl _ _, rfl⟩
  case round =>
    obtain ⟨k, l', acc, hk, rfl, rfl, hown, hak, hll, hbl, hsp⟩ := hrel
    have HSP : Hid (splitS l zs = splitGo acc l' (zs.drop k)) := hsp
    have HAK : Hid (acc.length = k) := hak
    have hak2 : acc.length ≤ k := by omega
    clear hsp hak
    by_cases hkz : k < zs.length
    · obtain ⟨z, hzz⟩ : ∃ z, zs[k] = z := ⟨_, rfl⟩
      have HZ : Hid (zs[k] = z) := hzz
      obtain ⟨ad2, hA2, hadb, hcell2⟩ : ∃ ad2, A2 = some ad2 ∧ ad2.block < hi ∧ wr.cell? (ad2.add k) = some (.int .i64 z) := by
        obtain ⟨ad, e, _, hb, hc⟩ := (h2.below hbl hhi) k (.int .i64 z) (by simp [ints, hkz, hzz])
        exact ⟨ad, e, hb, hc⟩
      rw [hA2]
      clear hzz hA2
      by_cases hneg : z < 0
      · have HE := Lib.hid (refsplit_none (HSP.out.trans (splitGo_neg acc l' zs k z hkz HZ.out hneg)) hbl)
        go_wp2
        go_ret2
        exact HE.out
      · obtain ⟨n, hn⟩ := Int.eq_ofNat_of_zero_le (show 0 ≤ z by omega)
        have HZN : Hid (zs[k] = (n : Int)) := HZ.out.trans hn
        rw [hn] at hcell2 hneg
        clear HZ hn
        by_cases hzl : (l'.length : Int) < n
        · have HE := Lib.hid (refsplit_none (HSP.out.trans (splitGo_cut acc l' zs k n hkz HZN.out hzl)) hbl)
          go_wp2
          go_ret2
          exact HE.out
        · have hnl : n ≤ l'.length := by omega
          have hc1 := cut_to l' n
          have hc2 := cut_from l' n
          have hc3 : (wr.alloc (.cells #[txt (l'.take n)] 9)).cell? (ad2.add k) = some (.int .i64 n) := (World.cell?_alloc_lt wr _ _ (cell_lt hcell2)).trans hcell2
          have HNE : Hid (some (ad2.add k).block ≠ u6.ownBlock) := by
            intro e
            have := (hown.lt _ e.symm).1
            rw [blk_add] at this
            omega
          go_wp2_with (at_builtin; refine wpList_append_own _ rfl _ _ 40 rfl w.heap.size 9 i0 (.string ⟨#[]⟩) 1 16 Try.underlying40 hi0 hz0 hz1 hz2 rfl (by decide) _ _ _ rfl (hown.alloc _) ⟨wr.heap.size, 0, none⟩ 1 1 [txt (l'.take n)] rfl rfl (cell_one_new _ _ _) (by intro u hu; simp at hu; subst hu; rfl) (by unfold maxLen; omega) (by omega) (by have := hbl.size; simp; omega) ?_; intro v2 w2 hown2 hgrow2 hnn; have hc4 := hgrow2.cell hc3 HNE.out)
          have hB2 : Below w.heap.size w w2 := (hbl.alloc hbl.size _).grown hgrow2 (by have := hbl.size; simp; omega) fun g hg => (hown.lt g hg).1
          have HS2 : Hid (splitS l zs = splitGo (acc ++ [l'.take n]) (l'.drop n) (zs.drop (k + 1))) := HSP.out.trans (splitGo_step acc l' zs k n hkz HZN.out hnl)
          have HV : Hid (w2.ownsRow w.heap.size 9 1 v2 (acc ++ [l'.take n]).length ((acc ++ [l'.take n]).map txt)) := by
            rw [List.length_append, List.map_append]
            exact hown2
          clear hown2 hgrow2 hnn
          go_roundw
          case rel => exact ⟨k + 1, l'.drop n, acc ++ [l'.take n], by omega, by go_num, rfl, HV.out, by rw [List.length_append, HAK.out]; rfl, by rw [List.length_drop]; omega, hB2, HS2.out⟩
          case measure => simp [intOf]; omega
    · obtain rfl : k = zs.length := by omega
      go_wp2_with (at_builtin; refine wpList_append_own _ rfl _ _ 40 rfl w.heap.size 9 i0 (.string ⟨#[]⟩) 1 16 Try.underlying40 hi0 hz0 hz1 hz2 rfl (by decide) _ _ _ rfl (hown.alloc _) ⟨wr.heap.size, 0, none⟩ 1 1 [txt l'] rfl rfl (cell_one_new _ _ _) (by intro u hu; simp at hu; subst hu; rfl) (by unfold maxLen; omega) (by omega) (by have := hbl.size; simp; omega) ?_; intro v2 w2 hown2 hgrow2 hnn)
      have hB2 : Below w.heap.size w w2 := (hbl.alloc hbl.size _).grown hgrow2 (by have := hbl.size; simp; omega) fun g hg => (hown.lt g hg).1
      have HE : Hid (RefSplitPost w (splitS l zs) (.returned (.tuple #[v2, .int .i64 0])) w2) := by
        rw [HSP.out, List.drop_length]
        have hl2 : acc.length + 1 = (acc ++ [l']).length := by simp
        have hm2 : acc.map txt ++ [txt l'] = (acc ++ [l']).map txt := by simp
        rw [hl2, hm2] at hown2
        obtain ⟨A2', c2', rfl⟩ := own_form hown2
        exact ⟨A2', c2', rfl, hown2, hB2⟩
      clear hown2 hgrow2 hnn hB2
      go_ret2
      exact HE.out

theorem same_none (c c2 : Nat) (A A2 : Option Addr) (w : World) :
    Calls Try.prog 15 #[.slice A 0 c, .slice A2 0 c2] w fun e w' => e = .returned (.bool true) ∧ w = w' := by
  go_enter Try.func15, Try.ntmps15
  go_wp2
  refine wp_loop_rounds 1 ?_
  rw [rounds_succ]
  go_wp2
  go_ret
  exact ⟨rfl, rfl⟩

set_option maxHeartbeats 400000 in
theorem same_some (ad ad2 : Addr) (c c2 B lo lo2 hi hi2 : Nat) (ps : List (List UInt8)) (vs : List Value) (w : World) (h : Rd w lo hi (some ad) vs) (hp : Parts w B vs ps) (h2 : Rd w lo2 hi2 (some ad2) (ps.map txt)) (hl : ps.length ≤ 2000000000) :
    Calls Try.prog 15 #[.slice (some ad) ps.length c, .slice (some ad2) ps.length c2] w fun e w' => e = .returned (.bool true) ∧ w = w' := by
  go_enter Try.func15, Try.ntmps15
  go_wp2
  go_loop [14] (fun i => ∃ k : Nat, k ≤ ps.length ∧ i = .int .i64 k) (fun i => ps.length - (intOf i).toNat)
  case atStart => exact ⟨0, Nat.zero_le _, rfl⟩
  case round =>
    obtain ⟨k, hk, rfl⟩ := hrel
    by_cases hks : k < ps.length
    · obtain ⟨p, hpk⟩ : ∃ p, ps[k] = p := ⟨_, rfl⟩
      have hps : ps[k]? = some p := by rw [List.getElem?_eq_getElem hks, hpk]
      obtain ⟨A3, c3, hv3, hown3⟩ := hp.2 k p hps
      have hcell : w.cell? (ad.add k) = some (.slice A3 p.length c3) := by
        obtain ⟨ad', e, _, _, hc⟩ := h k _ hv3
        cases e
        exact hc
      have hcell2 : w.cell? (ad2.add k) = some (txt p) := by
        obtain ⟨ad', e, _, _, hc⟩ := h2 k (txt p) (by rw [List.getElem?_map, hps]; rfl)
        cases e
        exact hc
      have ht : (convert 23 9 (.slice A3 p.length c3)).run Try.prog w = .ok (txt p) w := run_text (P := Try.prog) w 23 9 5 c3 Try.underlying23 Try.underlying5 Try.underlying9 (Rd.own hown3)
      clear hpk hps hv3 hown3
      go_wp2
      go_round
      case rel => exact ⟨k + 1, by omega, by go_num⟩
      case measure => simp [intOf]; omega
    · obtain rfl : k = ps.length := by omega
      go_wp2
      go_ret
      exact ⟨rfl, rfl⟩

/-- the same parts -/
theorem same_any (A A2 : Option Addr) (c c2 B lo lo2 hi hi2 : Nat) (ps : List (List UInt8)) (vs : List Value) (w : World) (h : Rd w lo hi A vs) (hp : Parts w B vs ps) (h2 : Rd w lo2 hi2 A2 (ps.map txt)) (hl : ps.length ≤ 2000000000) :
    Calls Try.prog 15 #[.slice A ps.length c, .slice A2 ps.length c2] w fun e w' => e = .returned (.bool true) ∧ w = w' := by
  rcases ps with _ | ⟨p, r⟩
  · exact same_none c c2 A A2 w
  · obtain ⟨A3, c3, hv3, _⟩ := hp.2 0 p rfl
    obtain ⟨ad, rfl, _⟩ := h 0 _ hv3
    obtain ⟨ad2, rfl, _⟩ := h2 0 (txt p) rfl
    exact same_some ad ad2 c c2 B lo lo2 hi hi2 _ vs w h hp h2 hl
end Go.Proofs.Ytclnmihcjkbopaa
