/-
  The document's Split, all of it; whether two lists of packets are the same. Every packet, every two lists that can be read. No condition.
-/
import Derived.Test.YtkgfphkhnhdemaaRefSplit
import Derived.Test.YtkgfphkhnhdemaaSame
import Derived.Lib.QuietBelow
import Derived.BigQuiet
namespace Go.Proofs.Ytkgfphkhnhdemaa
open Go.RowKit

/-- a slice that reads as packets -/
def RdPks (w : World) (v : Value) (ps : List Pk) : Prop :=
  ∃ A c xs, v = .slice A ps.length c ∧ Rd w 0 w.heap.size A xs ∧ RowOf 14 (fun cs q => PkV w 0 w.heap.size cs.toArray q) xs ps
theorem OwnPks.rd {w : World} {lo : Nat} {v : Value} {ps : List Pk} (h : OwnPks w lo v ps) : RdPks w v ps := by
  obtain ⟨xs, h1, h2⟩ := h
  obtain ⟨A, c, rfl, _⟩ := ownk_form h1
  exact ⟨A, c, xs, rfl, (Tr.own h1).rd.wide (Nat.zero_le _) (Nat.le_refl _), h2.imp fun cs q _ h => h.pkV.wide (Nat.zero_le _) (Nat.le_refl _)⟩
theorem RdPks.below {w w' : World} {v : Value} {ps : List Pk} (h : RdPks w v ps) (hb : Below w.heap.size w w') : RdPks w' v ps := by
  obtain ⟨A, c, xs, rfl, h1, h2⟩ := h
  exact ⟨A, c, xs, rfl, (h1.below hb (Nat.le_refl _)).wide (Nat.le_refl _) hb.size, h2.imp fun cs q _ h => (h.below hb (Nat.le_refl _)).wide (Nat.le_refl _) hb.size⟩

set_option maxHeartbeats 400000 in
theorem refsplit_arg (cs : Array Value) (off : Int) (more : Bool) (w : World) (h1 : cs[1]? = some (.bool more)) (h2 : cs[2]? = some (.int .i64 off)) (h : off ≠ 0 ∨ more = true) :
    Calls Try.prog 9 #[.agg cs] w fun e w' => e = .returned (.tuple #[.slice none 0 0, .int .i64 1]) ∧ Below w.heap.size w w' := by
  have HB := Lib.hid ((Below.refl w.heap.size w).alloc (Nat.le_refl _) (.cells cs 27))
  by_cases h0 : off = 0
  · have hm : more = true := h.resolve_left (fun hh => hh h0)
    subst hm h0
    clear h
    go_enter Try.func9, Try.ntmps9
    go_wp2
    go_ret2
    exact ⟨rfl, HB.out⟩
  · have h0' : (off != 0) = true := bneT h0
    clear h h0
    go_enter Try.func9, Try.ntmps9
    go_wp2
    go_ret2
    exact ⟨rfl, HB.out⟩
set_option maxHeartbeats 400000 in
theorem refsplit_long (cs : Array Value) (A : Option Addr) (n c : Nat) (w : World) (h1 : cs[1]? = some (.bool false)) (h2 : cs[2]? = some (.int .i64 0)) (h3 : cs[13]? = some (.slice A n c)) (hm : n ≤ 9223372036854775807) (h : 1000 < n) :
    Calls Try.prog 9 #[.agg cs] w fun e w' => e = .returned (.tuple #[.slice none 0 0, .int .i64 4]) ∧ Below w.heap.size w w' := by
  have HB := Lib.hid ((Below.refl w.heap.size w).alloc (Nat.le_refl _) (.cells cs 27))
  go_enter Try.func9, Try.ntmps9
  go_wp2
  go_ret2
  exact ⟨rfl, HB.out⟩
def RefPost (w : World) (r : List Pk × Int) (e : Ending) (w' : World) : Prop :=
  ∃ v, e = .returned (.tuple #[v, .int .i64 r.2]) ∧ RdPks w' v r.1 ∧ Below w.heap.size w w'
theorem refsplit_any (cs : Array Value) (p : Pk) (lo hi : Nat) (w : World) (h : PkV w lo hi cs p) (hhi : hi ≤ w.heap.size) :
    Calls Try.prog 9 #[.agg cs] w (RefPost w (splitP p)) := by
  have h2 := h.off_cell
  obtain ⟨A0, c0, h1, _, h13, _, hlc0, hcm0, _⟩ := h.parts
  by_cases ha : p.off ≠ 0 ∨ p.more = true
  · have e1 : splitP p = ([], 1) := by unfold splitP; rw [if_pos ha]
    refine (refsplit_arg cs p.off p.more w h1 h2 ha).mono ?_
    rintro e w' ⟨rfl, hb⟩
    rw [e1]
    exact ⟨_, rfl, ⟨none, 0, [], rfl, Rd.nil, RowOf.nil⟩, hb⟩
  · have h0 : p.off = 0 := Classical.byContradiction fun hh => ha (.inl hh)
    have hm : p.more = false := by
      cases hmm : p.more
      · rfl
      · exact absurd (.inr hmm) ha
    by_cases hl : 1000 < p.data.length
    · have e1 : splitP p = ([], 4) := by unfold splitP; rw [if_neg ha, if_pos hl]
      rw [h0] at h2
      rw [hm] at h1
      refine (refsplit_long cs A0 p.data.length c0 w h1 h2 h13 (by unfold maxLen at hcm0; omega) hl).mono ?_
      rintro e w' ⟨rfl, hb⟩
      rw [e1]
      exact ⟨_, rfl, ⟨none, 0, [], rfl, Rd.nil, RowOf.nil⟩, hb⟩
    · have e1 : splitP p = (splitL p (piecesN p.data.length), 0) := by unfold splitP; rw [if_neg ha, if_neg hl]
      rw [e1]
      obtain ⟨A, c, he, hok, _, hrd, hlc, hcm, hA⟩ := h
      refine (refsplit_ok cs p A p.data.length c lo hi w he hok h0 hm hrd rfl hlc hcm hA hhi (by omega)).mono ?_
      rintro e w' ⟨v, xs, rfl, h1, h2, h3⟩
      refine ⟨v, rfl, ?_, h3⟩
      obtain ⟨A', c', rfl, _⟩ := ownk_form h1
      exact ⟨A', c', xs, by rw [splitL_length], (Tr.own h1).rd.wide (Nat.zero_le _) (Nat.le_refl _), h2.imp fun cs q _ h => (h.below h3 hhi).wide (Nat.zero_le _) (Nat.le_trans hhi h3.size)⟩

theorem rd_some {w : World} {lo hi : Nat} {A : Option Addr} {xs : List Value} (h : Rd w lo hi A xs) (hl : 0 < xs.length) : ∃ ad, A = some ad := by
  obtain ⟨ad, e, _⟩ := h 0 _ (List.getElem?_eq_getElem hl)
  exact ⟨ad, e⟩
/-- are two lists of packets the same? -/
def pksEq : List Pk → List Pk → Bool
  | [], [] => true
  | p :: ps, q :: qs => pkEq p q && pksEq ps qs
  | _, _ => false
theorem pksEq_self : ∀ ps, pksEq ps ps = true
  | [] => rfl
  | p :: ps => by rw [pksEq, pkEq_self, pksEq_self ps]; rfl

set_option maxHeartbeats 1000000 in
/-- the same list twice -/
theorem same_list (ps : List Pk) (v1 v2 : Value) (w : World) (h1 : RdPks w v1 ps) (h2 : RdPks w v2 ps) (hl : ps.length ≤ 1000000) :
    Calls Try.prog 10 #[v1, v2] w fun e w' => e = .returned (.bool true) ∧ Below w.heap.size w w' := by
  obtain ⟨A1, c1, xs1, rfl, hr1, ho1⟩ := h1
  obtain ⟨A2, c2, xs2, rfl, hr2, ho2⟩ := h2
  have HR1 := Lib.hid hr1
  have HR2 := Lib.hid hr2
  have HO1 := Lib.hid ho1
  have HO2 := Lib.hid ho2
  clear hr1 hr2 ho1 ho2
  obtain ⟨n, hn⟩ : ∃ n, ps.length = n := ⟨_, rfl⟩
  rw [hn] at hl ⊢
  have HN := Lib.hid hn
  clear hn
  go_enter Try.func10, Try.ntmps10
  go_wp2
  go_loopw [13] (fun t13 wr => ∃ k : Nat, k ≤ n ∧ t13 = .int .i64 (k : Int) ∧ Hid (Below w.heap.size w wr)) (fun t13 _ => n - (intOf t13).toNat)
  case atStart => exact ⟨0, Nat.zero_le _, rfl, Lib.hid (Below.refl _ _)⟩
  case round =>
    obtain ⟨k, hk, rfl, HB⟩ := hrel
    by_cases hlt : k < n
    · obtain ⟨a1, rfl⟩ := rd_some HR1.out (by rw [HO1.out.1, HN.out]; omega)
      obtain ⟨a2, rfl⟩ := rd_some HR2.out (by rw [HO2.out.1, HN.out]; omega)
      obtain ⟨p, hp⟩ : ∃ p, ps[k]? = some p := ⟨_, List.getElem?_eq_getElem (by rw [HN.out]; exact hlt)⟩
      have HP1 : Hid (PkV w 0 w.heap.size ((xs1.drop (k * 14)).take 14).toArray p ∧ ((xs1.drop (k * 14)).take 14).length = 14) := ⟨HO1.out.2 k p hp, by simpa using (HO1.out.2 k p hp).size⟩
      have HP2 : Hid (PkV w 0 w.heap.size ((xs2.drop (k * 14)).take 14).toArray p ∧ ((xs2.drop (k * 14)).take 14).length = 14) := ⟨HO2.out.2 k p hp, by simpa using (HO2.out.2 k p hp).size⟩
      clear hp
      go_wp2_with fail
      apply wp_region_relyG [] (fun _ w' => w.heap.size ≤ w'.heap.size ∧ Below w.heap.size w w') (RL [Is _, Is _, Is (.pointer (some (a1.add (k * 14)))), Is (.agg ((xs1.drop (k * 14)).take 14).toArray), Is _, Is _, Is (.pointer (some (a2.add (k * 14)))), Is (.agg ((xs2.drop (k * 14)).take 14).toArray), Is (.bool true), Is _]) [false, false, false, false, false, false, false, false, false, false, false, false, false, false, false, false, true, true, true, true, true, true, true, true, true, true, false]
      · kernel_rfl
      · kernel_rfl
      · kernel_rfl
      · refine ⟨?_, ?_, ?_, ?_, ?_, ?_, ?_, ?_, ?_, ?_, trivial⟩
        · intro L ev w' hC hL hx K hK
          have e0 : ev (.tmp 0) = _ := hx.base 0 (by kernel_rfl)
          have HK := Lib.hid hK
          have HC := Lib.hid hC
          have HL := Lib.hid hL
          have HX := Lib.hid hx
          have hc := hx.cst
          skip
          clear hx hK hC hL
          unfold Run
          simp [execOp, Upon, go_sem, *]
          exact HK.out _ _ (.inl ⟨Below.refl _ _, by decide⟩) rfl
        · intro L ev w' hC hL hx K hK
          have e5 : ev (.tmp 5) = _ := hx.base 5 (by kernel_rfl)
          have HK := Lib.hid hK
          have HC := Lib.hid hC
          have HL := Lib.hid hL
          have HX := Lib.hid hx
          have hc := hx.cst
          skip
          clear hx hK hC hL
          unfold Run
          simp [execOp, Upon, go_sem, *]
          exact HK.out _ _ (.inl ⟨Below.refl _ _, by decide⟩) rfl
        · intro L ev w' hC hL hx K hK
          have e16 := hx.held 0 _ rfl (by kernel_rfl)
          have e17 := hx.held 1 _ rfl (by kernel_rfl)
          change ev (.tmp 16) = _ at e16
          change ev (.tmp 17) = _ at e17
          have HK := Lib.hid hK
          have HC := Lib.hid hC
          have HL := Lib.hid hL
          have HX := Lib.hid hx
          have hc := hx.cst
          skip
          clear hx hK hC hL
          unfold Run
          rw [run_indexE 29 _ _ rfl Try.underlying29 (size := 14) (by kernel_rfl) e16 e17 hlt]
          exact HK.out _ _ (.inl ⟨Below.refl _ _, by decide⟩) rfl
        · intro L ev w' hC hL hx K hK
          have e18 := hx.held 2 _ rfl (by kernel_rfl)
          change ev (.tmp 18) = _ at e18
          have HK := Lib.hid hK
          have HC := Lib.hid hC
          have HL := Lib.hid hL
          have HX := Lib.hid hx
          have hc := hx.cst
          skip
          clear hx hK hC hL
          have hld := run_loadVar_any (P := Try.prog) w' _ 27 ((xs1.drop (k * 14)).take 14) _ ((((HR1.out.below HC.out.2 (Nat.le_refl _)) : Rd w' 0 w.heap.size (some a1) xs1).elem (k := 14) k)) Try.underlying27 rfl (by rw [HP1.out.2]; kernel_rfl)
          unfold Run
          rw [run_loadE 27 _ rfl e18 hld]
          exact HK.out _ _ (.inl ⟨Below.refl _ _, by decide⟩) rfl
        · intro L ev w' hC hL hx K hK
          have e1 : ev (.tmp 1) = _ := hx.base 1 (by kernel_rfl)
          have HK := Lib.hid hK
          have HC := Lib.hid hC
          have HL := Lib.hid hL
          have HX := Lib.hid hx
          have hc := hx.cst
          skip
          clear hx hK hC hL
          unfold Run
          simp [execOp, Upon, go_sem, *]
          exact HK.out _ _ (.inl ⟨Below.refl _ _, by decide⟩) rfl
        · intro L ev w' hC hL hx K hK
          have e5 : ev (.tmp 5) = _ := hx.base 5 (by kernel_rfl)
          have HK := Lib.hid hK
          have HC := Lib.hid hC
          have HL := Lib.hid hL
          have HX := Lib.hid hx
          have hc := hx.cst
          skip
          clear hx hK hC hL
          unfold Run
          simp [execOp, Upon, go_sem, *]
          exact HK.out _ _ (.inl ⟨Below.refl _ _, by decide⟩) rfl
        · intro L ev w' hC hL hx K hK
          have e20 := hx.held 4 _ rfl (by kernel_rfl)
          have e21 := hx.held 5 _ rfl (by kernel_rfl)
          change ev (.tmp 20) = _ at e20
          change ev (.tmp 21) = _ at e21
          have HK := Lib.hid hK
          have HC := Lib.hid hC
          have HL := Lib.hid hL
          have HX := Lib.hid hx
          have hc := hx.cst
          skip
          clear hx hK hC hL
          unfold Run
          rw [run_indexE 29 _ _ rfl Try.underlying29 (size := 14) (by kernel_rfl) e20 e21 hlt]
          exact HK.out _ _ (.inl ⟨Below.refl _ _, by decide⟩) rfl
        · intro L ev w' hC hL hx K hK
          have e22 := hx.held 6 _ rfl (by kernel_rfl)
          change ev (.tmp 22) = _ at e22
          have HK := Lib.hid hK
          have HC := Lib.hid hC
          have HL := Lib.hid hL
          have HX := Lib.hid hx
          have hc := hx.cst
          skip
          clear hx hK hC hL
          have hld := run_loadVar_any (P := Try.prog) w' _ 27 ((xs2.drop (k * 14)).take 14) _ ((((HR2.out.below HC.out.2 (Nat.le_refl _)) : Rd w' 0 w.heap.size (some a2) xs2).elem (k := 14) k)) Try.underlying27 rfl (by rw [HP2.out.2]; kernel_rfl)
          unfold Run
          rw [run_loadE 27 _ rfl e22 hld]
          exact HK.out _ _ (.inl ⟨Below.refl _ _, by decide⟩) rfl
        · intro L ev w' hC hL hx K hK
          have e19 := hx.held 3 _ rfl (by kernel_rfl)
          have e23 := hx.held 7 _ rfl (by kernel_rfl)
          change ev (.tmp 19) = _ at e19
          change ev (.tmp 23) = _ at e23
          have HK := Lib.hid hK
          have HC := Lib.hid hC
          have HL := Lib.hid hL
          have HX := Lib.hid hx
          have hc := hx.cst
          have hf := hx.fn
          clear hx hK hC hL
          have HX := Lib.hid (same_any _ _ _ _ 0 w.heap.size 0 w.heap.size w' (HP1.out.1.below HC.out.2 (Nat.le_refl _)) (HP2.out.1.below HC.out.2 (Nat.le_refl _)) HC.out.1 HC.out.1)
          rw [pkEq_self] at HX
          unfold Run
          simp [execOp, Upon, go_sem, *]
          refine HX.out.mono ?_
          rintro e w2 ⟨rfl, hb⟩
          exact ⟨_, rfl, HK.out _ _ (.inl ⟨hb, by decide⟩) rfl⟩
        · intro L ev w' hC hL hx K hK
          have e24 := hx.held 8 _ rfl (by kernel_rfl)
          change ev (.tmp 24) = _ at e24
          have HK := Lib.hid hK
          have HC := Lib.hid hC
          have HL := Lib.hid hL
          have HX := Lib.hid hx
          have hc := hx.cst
          skip
          clear hx hK hC hL
          unfold Run
          simp [execOp, Upon, go_sem, *]
          exact HK.out _ _ (.inl ⟨Below.refl _ _, by decide⟩) rfl
      · exact rl_mono ⟨is_mono _, is_mono _, is_mono _, is_mono _, is_mono _, is_mono _, is_mono _, is_mono _, is_mono _, is_mono _, trivial⟩
      · exact fun _ _ _ _ h => h
      · exact fun L w1 w2 hb h => ⟨Nat.le_trans h.1 hb.size, h.2.trans (hb.mono h.1)⟩
      · exact ⟨HB.out.size, HB.out⟩
      · simp
      intro us wr hG hH
      obtain ⟨-, -, -, -, -, -, -, -, -, h9, -⟩ := hH
      simp only [fillM]
      change us 25 = _ at h9
      rw [h9]
      clear h9
      generalize us 16 = v16
      generalize us 17 = v17
      generalize us 18 = v18
      generalize us 19 = v19
      generalize us 20 = v20
      generalize us 21 = v21
      generalize us 22 = v22
      generalize us 23 = v23
      generalize us 24 = v24
      have HB2 := Lib.hid hG.2
      clear hG
      go_wp2
      go_roundw
      case rel => exact ⟨k + 1, by omega, by go_num, HB2⟩
      case measure => simp [intOf]; omega
    · obtain rfl : k = n := by omega
      go_wp2
      go_ret
      exact ⟨rfl, HB.out⟩
end Go.Proofs.Ytkgfphkhnhdemaa
