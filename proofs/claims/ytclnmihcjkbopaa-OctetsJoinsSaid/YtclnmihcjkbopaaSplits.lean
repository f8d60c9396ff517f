/-
  OctetsSplits returns true for every bytes and every sizes, and turns nothing that was there.
-/
import Derived.Test.YtclnmihcjkbopaaLives
import Derived.Test.YtclnmihcjkbopaaRefSplit
namespace Go.Proofs.Ytclnmihcjkbopaa
open Go.RowKit

theorem splitGo_flat (zs : List Int) : ∀ (acc : List (List UInt8)) (l : List UInt8), ((splitGo acc l zs).2 = 0 ∧ (splitGo acc l zs).1.flatten = acc.flatten ++ l ∧ (splitGo acc l zs).1.length = acc.length + zs.length + 1) ∨ ((splitGo acc l zs).2 ≠ 0 ∧ (splitGo acc l zs).1 = []) := by
  induction zs with
  | nil => intro acc l; left; simp [splitGo]
  | cons z r ih =>
    intro acc l
    simp only [splitGo]
    split
    · right; simp
    · split
      · right; simp
      · rcases ih (acc ++ [l.take z.toNat]) (l.drop z.toNat) with ⟨h1, h2, h3⟩ | h
        · left
          refine ⟨h1, ?_, by rw [h3]; simp; omega⟩
          rw [h2, List.flatten_append, List.append_assoc]
          simp
        · exact .inr h
theorem splitS_flat (l : List UInt8) (zs : List Int) : ((splitS l zs).2 = 0 ∧ (splitS l zs).1.flatten = l ∧ (splitS l zs).1.length = zs.length + 1) ∨ ((splitS l zs).2 ≠ 0 ∧ (splitS l zs).1 = []) := by
  rcases splitGo_flat zs [] l with ⟨h1, h2, h3⟩ | h
  · exact .inl ⟨h1, h2.trans (List.nil_append l), h3.trans (by simp)⟩
  · exact .inr h

theorem splits_big (A A2 : Option Addr) (L c L2 c2 : Nat) (w : World) (hm : L ≤ maxLen) (hm2 : L2 ≤ maxLen) (h : 500 < L ∨ 50 < L2) :
    Calls Try.prog 5 #[.slice A L c, .slice A2 L2 c2] w fun e w' => e = .returned (.bool true) ∧ Below w.heap.size w w' := by
  unfold maxLen at hm hm2
  by_cases h1 : 500 < L
  · clear h
    go_enter Try.func5, Try.ntmps5
    go_wp2_with fail
    refine (lives_any _).mono ?_
    rintro e w1 ⟨rfl, hb1⟩
    go_wp2_with fail
    refine (lives_any _).mono ?_
    rintro e w2 ⟨rfl, hb2⟩
    go_wp2
    go_ret
    exact ⟨rfl, hb1.trans (hb2.mono hb1.size)⟩
  · have h2 : 50 < L2 := by omega
    clear h
    go_enter Try.func5, Try.ntmps5
    go_wp2_with fail
    refine (lives_any _).mono ?_
    rintro e w1 ⟨rfl, hb1⟩
    go_wp2_with fail
    refine (lives_any _).mono ?_
    rintro e w2 ⟨rfl, hb2⟩
    go_wp2
    go_ret
    exact ⟨rfl, hb1.trans (hb2.mono hb1.size)⟩

/-- the parts and texts, wherever they lie: what is known of them, and kept while the bytes they came of are written (block g) -/
def Held (B : Nat) (Al : Option Addr) (cl : Nat) (vs : List Value) (Am : Option Addr) (cm : Nat) (ps : List (List UInt8)) (w : World) : Prop :=
  w.ownsRow B 23 1 (.slice Al ps.length cl) ps.length vs ∧ Parts w B vs ps ∧ w.ownsRow B 9 1 (.slice Am ps.length cm) ps.length (ps.map txt)
theorem Held.kept {B : Nat} {Al Am : Option Addr} {cl cm : Nat} {vs : List Value} {ps : List (List UInt8)} {w w' : World} {row : Option Nat} (h : Held B Al cl vs Am cm ps w) (hg : w.grownBy w' row) (hr : ∀ g, row = some g → g < B) : Held B Al cl vs Am cm ps w' := by
  have key : ∀ {e : TypeId} {v : Value} {n : Nat} {xs : List Value}, w.ownsRow B e 1 v n xs → v.ownBlock = none ∨ v.ownBlock ≠ row := by
    intro e v n xs ho
    rcases hv : v.ownBlock with _ | g
    · exact .inl rfl
    · refine .inr fun e => ?_
      have h1 := (ho.lt g hv).1
      have h2 := hr g e.symm
      omega
  refine ⟨h.1.kept hg (key h.1), ⟨h.2.1.1, fun i p hp => ?_⟩, h.2.2.kept hg (key h.2.2)⟩
  obtain ⟨A, c, h1, h2⟩ := h.2.1.2 i p hp
  exact ⟨A, c, h1, h2.kept hg (key h2)⟩

/-- the bytes behind k rounds of 'own[i]++' -/
def incL (l : List UInt8) (k : Nat) : List UInt8 := (l.take k).map (· + 1) ++ l.drop k
theorem incL_length (l : List UInt8) (k : Nat) : (incL l k).length = l.length := by simp [incL]; omega
theorem incL_zero (l : List UInt8) : incL l 0 = l := by simp [incL]
theorem incL_get (l : List UInt8) (k : Nat) (h : k < l.length) : (cells (incL l k))[k]? = some (.int .u8 (l[k].toNat : Int)) := by
  rw [cells_get _ k (by rw [incL_length]; exact h)]
  have e : (incL l k)[k]'(by rw [incL_length]; exact h) = l[k] := by
    have h1 : (incL l k)[k]? = some l[k] := by
      unfold incL
      rw [List.getElem?_append_right (by rw [List.length_map, List.length_take]; omega), List.length_map, List.length_take, Nat.min_eq_left (by omega), Nat.sub_self, List.getElem?_drop, Nat.add_zero, List.getElem?_eq_getElem h]
    rw [List.getElem?_eq_getElem (by rw [incL_length]; exact h)] at h1
    exact Option.some.inj h1
  rw [e]
theorem incL_set (l : List UInt8) (k : Nat) (h : k < l.length) : (cells (incL l k)).set k (.int .u8 ((l[k] + 1).toNat : Int)) = cells (incL l (k + 1)) := by
  unfold incL
  rw [cells_append, cells_append, List.set_append_right _ _ (by rw [cells_length]; simp; omega), List.take_succ_eq_append_getElem h, List.map_append, cells_append, List.append_assoc]
  congr 1
  rw [cells_length, List.length_map, List.length_take, Nat.min_eq_left (by omega), Nat.sub_self, List.drop_eq_getElem_cons h]
  rfl

theorem ba_app (l m : List UInt8) : (⟨l.toArray⟩ : ByteArray) ++ ⟨m.toArray⟩ = ⟨(l ++ m).toArray⟩ := by
  apply ByteArray.ext
  simp
theorem flatten_two (ps : List (List UInt8)) (k : Nat) (h : k < ps.length) : (ps.take k).flatten.length + ps[k].length ≤ ps.flatten.length := by
  have e : ps = ps.take k ++ ps[k] :: ps.drop (k + 1) := by
    rw [← List.drop_eq_getElem_cons h, List.take_append_drop]
  have e2 : ps.flatten.length = (ps.take k ++ ps[k] :: ps.drop (k + 1)).flatten.length := by rw [← e]
  rw [e2, List.flatten_append, List.flatten_cons, List.length_append, List.length_append]
  omega

set_option maxHeartbeats 1000000 in
theorem splits_walk (A A2 : Option Addr) (l : List UInt8) (zs : List Int) (c c2 : Nat) (w : World) (hl : l.length ≤ 500) (hz : zs.length ≤ 50) (hrd : Rd w 0 w.heap.size A (cells l)) (hrd2 : Rd w 0 w.heap.size A2 (ints zs)) (hA : A = none → c = 0) :
    Calls Try.prog 5 #[.slice A l.length c, .slice A2 zs.length c2] w fun e w' => e = .returned (.bool true) ∧ Below w.heap.size w w' := by
  obtain ⟨i0, hi0, hz0, hz1, hz2⟩ := info_parts info5
  obtain ⟨r, hr⟩ : ∃ r, splitS l zs = r := ⟨_, rfl⟩
  have hfl := splitS_flat l zs
  rw [hr] at hfl
  have HR := Lib.hid hr
  have HFL := Lib.hid hfl
  clear hr hfl
  go_enter Try.func5, Try.ntmps5
  go_wp2_with fail
  refine (lives_any _).mono ?_
  rintro e w1 ⟨rfl, hb1⟩
  have hlit : (w1.alloc (.cells #[] 5)).ownsRow w.heap.size 5 1 (.slice (some ⟨w1.heap.size, 0, none⟩) 0 0) 0 [] := World.ownsRow_lit w1 #[] 0 hb1.size (by unfold maxLen; omega) rfl
  go_wp2_with (at_builtin; refine wpList_append_rd rfl _ _ 23 rfl w.heap.size 5 i0 (.int .u8 0) 1 Try.underlying23 hi0 hz0 hz1 hz2 rfl _ _ _ rfl hlit A l.length c (cells l) rfl hA (cells_length l) ((hrd.below hb1 (Nat.le_refl _)).alloc hb1.size _) (cells_one l) (by unfold maxLen; omega) (by omega) (by have := hb1.size; simp; omega) ?_; intro v2 w2 hown2 hgrow2)
  have hB2 : Below w.heap.size w w2 := (hb1.alloc hb1.size _).grown hgrow2 (by have := hb1.size; simp; omega) fun g hg => (hlit.lt g hg).1
  clear hgrow2
  rw [Nat.zero_add, List.nil_append] at hown2
  obtain ⟨A5, c5, hv5⟩ := own_form hown2
  rw [hv5] at hown2 ⊢
  clear hv5
  have hcap := own_cap hown2
  have hrd5 := Rd.own hown2
  have hs := split_any A5 A2 l zs c5 c2 0 w2.heap.size w2 (hrd5.wide (Nat.zero_le _) (Nat.le_refl _)) ((hrd2.below hB2 (Nat.le_refl _)).wide (Nat.le_refl _) hB2.size) (Nat.le_refl _) (by omega) (by omega) hcap.1 hcap.2
  rw [HR.out] at hs
  refine hs.mono ?_
  rintro e w3 ⟨Al, cl, vs, rfl, hown3, hpt3, hb3⟩
  clear hs
  have hB3 : Below w.heap.size w w3 := hB2.trans (hb3.mono hB2.size)
  have ht : (convert 23 9 (.slice A l.length c)).run Try.prog w3 = .ok (txt l) w3 := run_text (P := Try.prog) w3 23 9 5 c Try.underlying23 Try.underlying5 Try.underlying9 (hrd.below hB3 (Nat.le_refl _))
  go_wp2_with fail
  clear ht
  have hs := refsplit_any A2 l zs c2 0 w.heap.size w3 (hrd2.below hB3 (Nat.le_refl _)) hB3.size (by omega) (by omega)
  rw [HR.out] at hs
  refine hs.mono ?_
  rintro e w4 ⟨Am, cm, rfl, hown4, hb4⟩
  clear hs
  have hB4 : Below w.heap.size w w4 := hB3.trans (hb4.mono hB3.size)
  have hH4 : Held w2.heap.size Al cl vs Am cm r.1 w4 := by
    refine ⟨own_below hown3 hb4 (Nat.le_refl _), ⟨hpt3.1, fun i p hp => ?_⟩, own_base hown4 hb3.size⟩
    obtain ⟨A, c, h1, h2⟩ := hpt3.2 i p hp
    exact ⟨A, c, h1, own_below h2 hb4 (Nat.le_refl _)⟩
  have how4 : w4.ownsRow w.heap.size 5 1 (.slice A5 l.length c5) l.length (cells l) := own_below (own_below hown2 hb3 (Nat.le_refl _)) hb4 (Nat.le_refl _)
  have hsz24 : w2.heap.size ≤ w4.heap.size := Nat.le_trans hb3.size hb4.size
  have hlt5 : ∀ g, (Value.slice A5 l.length c5).ownBlock = some g → w.heap.size ≤ g ∧ g < w2.heap.size := hown2.lt
  have HLT5 := Lib.hid hlt5
  have hrl : r.1.length ≤ 51 := by
    rcases HFL.out with h | h
    · omega
    · rw [h.2]; simp
  have HH4 := Lib.hid hH4
  have HO4 := Lib.hid how4
  have HB4 := Lib.hid hB4
  have h02 : w.heap.size ≤ w2.heap.size := hB2.size
  clear hown3 hpt3 hown4 hb3 hb4 hb1 hB2 hB3 hown2 hrd5 hcap hlit hlt5 hsz24
  go_wp2_with fail
  refine (same_any Al Am cl cm w2.heap.size _ _ _ _ r.1 vs w4 (Rd.own hH4.1) hH4.2.1 (Rd.own hH4.2.2) (by omega)).mono ?_
  rintro e w5 ⟨rfl, rfl⟩
  go_wp2_with fail
  clear hH4 how4 hB4
  go_loopw [54] (fun i wr => ∃ k : Nat, k ≤ l.length ∧ i = .int .i64 k ∧ wr.ownsRow w.heap.size 5 1 (.slice A5 l.length c5) l.length (cells (incL l k)) ∧ Held w2.heap.size Al cl vs Am cm r.1 wr ∧ Below w.heap.size w wr) (fun i _ => l.length - (intOf i).toNat)
  case atStart => exact ⟨0, Nat.zero_le _, rfl, by rw [incL_zero]; exact HO4.out, HH4.out, HB4.out⟩
  case round =>
    obtain ⟨k, hk, rfl, hrow, hheld, hbl⟩ := hrel
    have HHE := Lib.hid hheld
    have HBL := Lib.hid hbl
    clear hheld hbl
    by_cases hks : k < l.length
    · obtain ⟨g, hA5, hg1, hg2, hcell⟩ := own_at hrow (incL_get l k hks)
      rw [hA5] at hrow
      have hfree : wr.frozen? ⟨g, k, none⟩ = false := hrow.frozenAt k
      have hst := hrow.stored k (.int .u8 ((l[k] + 1).toNat : Int))
      rw [incL_set l k hks] at hst
      have hgl : g < w2.heap.size := (HLT5.out g (by rw [hA5]; rfl)).2
      obtain ⟨x, hx⟩ : ∃ x, l[k].toNat = x := ⟨_, rfl⟩
      have hxb : x < 256 := by rw [← hx]; exact l[k].toNat_lt
      have hinc : (((l[k] + 1).toNat : Nat) : Int) = IntKind.u8.wrap ((x : Int) + 1) := by
        rw [IntKind.wrap_u8', UInt8.toNat_add, hx]
        show ((_ : Nat) : Int) = _
        rw [show (1 : UInt8).toNat = 1 from rfl]
        omega
      rw [hinc] at hst
      rw [hx] at hcell
      have HV := Lib.hid hst.1
      have HH2 := Lib.hid (HHE.out.kept hst.2 fun j hj => by cases hj; exact hgl)
      have HB2 := Lib.hid (HBL.out.setCell (p := ⟨g, k, none⟩) hg1 (.int .u8 (IntKind.u8.wrap ((x : Int) + 1))))
      have HA5 := Lib.hid hA5
      rw [hA5]
      clear hst hrow hinc hx hA5 hg1 hg2 hgl
      go_wp2
      go_roundw
      case rel => exact ⟨k + 1, by omega, by go_num, HV.out, HH2.out, HB2.out⟩
      case measure => simp [intOf]; omega
    · have HRW := Lib.hid hrow
      clear hrow
      go_wp2_with fail
      refine (same_any Al Am cl cm w2.heap.size _ _ _ _ r.1 vs wr (Rd.own HHE.out.1) HHE.out.2.1 (Rd.own HHE.out.2.2) (by omega)).mono ?_
      rintro e w5 ⟨rfl, rfl⟩
      go_wp2_with fail
      have hflat : r.1.flatten.length ≤ 500 := by
        rcases HFL.out with h | h
        · rw [h.2.1]; exact hl
        · rw [h.2]; simp
      have HFT := Lib.hid hflat
      clear hflat
      go_loop [11, 70] (fun t i => ∃ k : Nat, k ≤ r.1.length ∧ i = .int .i64 k ∧ t = txt (r.1.take k).flatten) (fun _ i => r.1.length - (intOf i).toNat)
      case atStart => exact ⟨0, Nat.zero_le _, rfl, rfl⟩
      case round =>
        obtain ⟨j, hj, rfl, rfl⟩ := hrel
        by_cases hjs : j < r.1.length
        · obtain ⟨p, hp⟩ : ∃ p, r.1[j] = p := ⟨_, rfl⟩
          have hps : r.1[j]? = some p := by rw [List.getElem?_eq_getElem hjs, hp]
          obtain ⟨A3, c3, hv3, hown3⟩ := HHE.out.2.1.2 j p hps
          obtain ⟨g, hAl, _, _, hcell⟩ := own_at HHE.out.1 hv3
          have ht : (convert 23 9 (.slice A3 p.length c3)).run Try.prog wr = .ok (txt p) wr := run_text (P := Try.prog) wr 23 9 5 c3 Try.underlying23 Try.underlying5 Try.underlying9 (Rd.own hown3)
          have hb := flatten_two r.1 j hjs
          rw [hp] at hb
          have hb1 : (r.1.take j).flatten.length ≤ 500 := by have := HFT.out; omega
          have hb2 : p.length ≤ 500 := by have := HFT.out; omega
          have HT : Hid (Value.string (⟨(r.1.take j).flatten.toArray⟩ ++ ⟨p.toArray⟩) = txt (r.1.take (j + 1)).flatten) := by
            show _ = _
            rw [List.take_succ_eq_append_getElem hjs, hp, List.flatten_append]
            refine congrArg Value.string ((ba_app _ _).trans ?_)
            simp
          obtain ⟨f, hf⟩ : ∃ f, (r.1.take j).flatten = f := ⟨_, rfl⟩
          rw [hf] at hb1 HT ⊢
          rw [hAl]
          clear hb hp hps hv3 hown3 hAl hf
          go_wp2
          go_round
          case rel => exact ⟨j + 1, by omega, by go_num, HT.out⟩
          case measure => simp [intOf]; omega
        · obtain rfl : j = r.1.length := by omega
          rw [List.take_length]
          rcases HFL.out with ⟨h0, hfl, _⟩ | ⟨h0, _⟩
          · rw [hfl, h0]
            have ht : (convert 23 9 (.slice A l.length c)).run Try.prog wr = .ok (txt l) wr := run_text (P := Try.prog) wr 23 9 5 c Try.underlying23 Try.underlying5 Try.underlying9 (hrd.below HBL.out (Nat.le_refl _))
            clear h0 hfl
            go_wp2
            go_ret
            exact ⟨rfl, HBL.out⟩
          · have hne : (r.2 != 0) = true := by simpa using h0
            have hne2 : (r.2 == 0) = false := by simpa using h0
            clear h0
            go_wp2
            go_ret
            exact ⟨rfl, HBL.out⟩
end Go.Proofs.Ytclnmihcjkbopaa
