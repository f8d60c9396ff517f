/-
  OctetsJoins returns true for every two bytes within the reach, and turns nothing that was there.
-/
import Derived.Test.YtclnmihcjkbopaaLives
import Derived.Test.YtclnmihcjkbopaaGet
import Derived.Test.YtclnmihcjkbopaaSplits
namespace Go.Proofs.Ytclnmihcjkbopaa
open Go.RowKit

theorem info3 : (Try.prog.info? 3).map (fun i => (i.zero, i.size, i.bytes)) = some (some (.int .i64 0), 1, 8) := by kernel_rfl

theorem splitGo_ones (l : List UInt8) : ∀ acc : List (List UInt8), splitGo acc l (List.replicate l.length 1) = (acc ++ l.map (fun c => [c]) ++ [[]], 0) := by
  induction l with
  | nil => intro acc; simp [splitGo]
  | cons c r ih =>
    intro acc
    rw [List.length_cons, List.replicate_succ]
    simp only [splitGo]
    rw [if_neg (by omega), if_neg (by simp only [List.length_cons]; omega), show (1 : Int).toNat = 1 from rfl, show (c :: r).take 1 = [c] from rfl, show (c :: r).drop 1 = r from rfl, ih]
    simp
theorem splitS_ones (l : List UInt8) : splitS l (List.replicate l.length 1) = (l.map (fun c => [c]) ++ [[]], 0) := by
  have := splitGo_ones l []
  exact this
theorem getS_one (c : UInt8) : getS [c] = (c.toNat, 0) := by
  unfold getS
  rw [if_neg (by simp)]
  simp [getV]
theorem hexL_append (l m : List UInt8) : hexL (l ++ m) = hexL l ++ hexL m := by
  unfold hexL
  rw [List.flatMap_append]

theorem joins_big (A A2 : Option Addr) (L c L2 c2 : Nat) (w : World) (hm : L ≤ 140737488351232) (hm2 : L2 ≤ 140737488351232) (h : 300 < L + L2) :
    Calls Try.prog 7 #[.slice A L c, .slice A2 L2 c2] w fun e w' => e = .returned (.bool true) ∧ Below w.heap.size w w' := by
  have hi : (300 : Int) < (L : Int) + (L2 : Int) := by omega
  go_enter Try.func7, Try.ntmps7
  go_wp2_with fail
  refine (lives_any _).mono ?_
  rintro e w1 ⟨rfl, hb1⟩
  go_wp2_with fail
  refine (lives_any _).mono ?_
  rintro e w2 ⟨rfl, hb2⟩
  go_wp2
  go_ret
  exact ⟨rfl, hb1.trans (hb2.mono hb1.size)⟩

set_option maxHeartbeats 1000000 in
theorem joins_walk (A A2 : Option Addr) (l m : List UInt8) (c c2 : Nat) (w : World) (hl : l.length + m.length ≤ 300) (hrd : Rd w 0 w.heap.size A (cells l)) (hrd2 : Rd w 0 w.heap.size A2 (cells m)) (hA : A = none → c = 0) (hA2 : A2 = none → c2 = 0) :
    Calls Try.prog 7 #[.slice A l.length c, .slice A2 m.length c2] w fun e w' => e = .returned (.bool true) ∧ Below w.heap.size w w' := by
  obtain ⟨i0, hi0, hz0, hz1, hz2⟩ := info_parts info5
  obtain ⟨j0, hj0, hy0, hy1, hy2⟩ := info_parts info3
  have hil : (l.length : Int) + (m.length : Int) ≤ 300 := by omega
  go_enter Try.func7, Try.ntmps7
  go_wp2_with fail
  refine (lives_any _).mono ?_
  rintro e w1 ⟨rfl, hb1⟩
  have hlit : (w1.alloc (.cells #[] 5)).ownsRow w.heap.size 5 1 (.slice (some ⟨w1.heap.size, 0, none⟩) 0 0) 0 [] := World.ownsRow_lit w1 #[] 0 hb1.size (by unfold maxLen; omega) rfl
  have HB1 := Lib.hid hb1
  have hs1 := hb1.size
  clear hb1
  go_wp2_with (first | (at_builtin; refine wpList_append_rd rfl (.tmp 24) (.tmp 25) 23 rfl w.heap.size 5 i0 (.int .u8 0) 1 Try.underlying23 hi0 hz0 hz1 hz2 rfl _ _ _ rfl hlit A l.length c (cells l) rfl hA (cells_length l) ((hrd.below HB1.out (Nat.le_refl _)).alloc hs1 _) (cells_one l) (by unfold maxLen; omega) (by omega) (by simp; omega) ?_; intro v2 w2 hown2 hgrow2; rw [Nat.zero_add, List.nil_append] at hown2; have HB2 : Hid (Below w.heap.size w w2) := (HB1.out.alloc hs1 _).grown hgrow2 (by simp; omega) fun g hg => (hlit.lt g hg).1; have hs2 : w.heap.size ≤ w2.heap.size := HB2.out.size; clear hgrow2) | (at_builtin; refine wpList_append_rd rfl (.tmp 26) (.tmp 27) 23 rfl w.heap.size 5 i0 (.int .u8 0) 1 Try.underlying23 hi0 hz0 hz1 hz2 rfl _ _ _ rfl hown2 A2 m.length c2 (cells m) rfl hA2 (cells_length m) (hrd2.below HB2.out (Nat.le_refl _)) (cells_one m) (by unfold maxLen; omega) (by omega) hs2 ?_; intro v3 w3 hown3 hgrow3; obtain ⟨A5, c5, rfl⟩ := own_form hown3))
  have HB3 : Hid (Below w.heap.size w w3) := HB2.out.grown hgrow3 hs2 fun g hg => (hown2.lt g hg).1
  obtain ⟨L, hL⟩ : ∃ L, l ++ m = L := ⟨_, rfl⟩
  have HL := Lib.hid hL
  have hLl : L.length = l.length + m.length := by rw [← hL, List.length_append]
  rw [← cells_append, hL, ← hLl] at hown3
  have hLi : (l.length : Int) + (m.length : Int) = (L.length : Int) := by omega
  rw [← hLl, hLi]
  clear hgrow3 hown2 hL hlit
  have HO3 := Lib.hid hown3
  have hL300 : L.length ≤ 300 := by omega
  clear hLl hLi
  clear hown3
  go_loopw [6, 31] (fun v i wr => ∃ k : Nat, k ≤ L.length ∧ i = .int .i64 k ∧ wr.ownsRow w.heap.size 3 1 v k (ints (List.replicate k 1)) ∧ wr.ownsRow w.heap.size 5 1 (.slice A5 L.length c5) L.length (cells L) ∧ Below w.heap.size w wr) (fun _ i _ => L.length - (intOf i).toNat)
  case atStart => exact ⟨0, Nat.zero_le _, rfl, World.ownsRow_nil _ _ _ _, HO3.out, HB3.out⟩
  case round =>
    obtain ⟨k, hk, rfl, hone, hrow, hbl⟩ := hrel
    clear HO3 HB3
    by_cases hks : k < L.length
    · have HBL := Lib.hid hbl
      have hsr := hbl.size
      clear hbl
      go_wp2_with (at_builtin; refine wpList_append_own _ rfl _ _ 36 rfl w.heap.size 3 j0 (.int .i64 0) 1 8 Try.underlying36 hj0 hy0 hy1 hy2 rfl (by decide) _ _ _ rfl (hone.alloc _) ⟨wr.heap.size, 0, none⟩ 1 1 [.int .i64 1] rfl rfl (cell_one_new _ _ _) (by intro u hu; simp at hu; subst hu; rfl) (by unfold maxLen; omega) (by omega) (by simp; omega) ?_; intro v4 w4 hown4 hgrow4 hnn)
      have hv : ints (List.replicate k 1) ++ [.int .i64 1] = ints (List.replicate (k + 1) 1) := by
        rw [List.replicate_succ']
        simp [ints]
      rw [hv] at hown4
      have HV := Lib.hid hown4
      have HR2 := Lib.hid ((hrow.alloc _).kept hgrow4 (own_ne hrow hone (by decide)))
      have HB4 := Lib.hid ((HBL.out.alloc hsr _).grown hgrow4 (by simp; omega) fun g hg => (hone.lt g hg).1)
      clear hown4 hgrow4 hnn hv
      go_roundw
      case rel => exact ⟨k + 1, by omega, by go_num, HV.out, HR2.out, HB4.out⟩
      case measure => simp [intOf]; omega
    · obtain rfl : k = L.length := by omega
      obtain ⟨A6, c6, hv6⟩ := own_form hone
      rw [hv6] at hone ⊢
      clear hv6
      have hcap := own_cap hrow
      have hs := split_any A5 A6 L (List.replicate L.length 1) c5 c6 0 wr.heap.size wr ((Rd.own hrow).wide (Nat.zero_le _) (Nat.le_refl _)) ((Rd.own hone).wide (Nat.zero_le _) (Nat.le_refl _)) (Nat.le_refl _) (by omega) (by rw [List.length_replicate]; omega) hcap.1 hcap.2
      rw [splitS_ones, List.length_replicate] at hs
      go_wp2_with fail
      refine hs.mono ?_
      rintro e w4 ⟨Al, cl, vs, rfl, hown4, hpt4, hb4⟩
      have hrow4 := own_below hrow hb4 (Nat.le_refl _)
      have hB4 : Below w.heap.size w w4 := hbl.trans (hb4.mono hbl.size)
      have hrl : (L.map (fun c => [c]) ++ [[]]).length = L.length + 1 := by simp
      have hlast : (L.map (fun c => [c]) ++ [[]])[L.length]? = some [] := by
        rw [List.getElem?_append_right (by simp)]
        simp
      have heach : ∀ k (hk : k < L.length), (L.map (fun c => [c]) ++ [[]])[k]? = some [L[k]] := by
        intro k hk
        rw [List.getElem?_append_left (by simpa using hk), List.getElem?_map, List.getElem?_eq_getElem hk]
        rfl
      dsimp only at hown4 hpt4 ⊢
      generalize (L.map (fun c => [c]) ++ [[]]) = ps at hown4 hpt4 hrl hlast heach ⊢
      rw [hrl] at hown4 ⊢
      obtain ⟨A3, c3, hv3, _⟩ := hpt4.2 _ _ hlast
      obtain ⟨g, hAl, hg1, hg2, hcl⟩ := own_at hown4 hv3
      have HP := Lib.hid hpt4
      have HE := Lib.hid heach
      have HO := Lib.hid hown4
      have HR4 := Lib.hid hrow4
      have HB := Lib.hid hB4
      have HAL := Lib.hid hAl
      rw [hAl]
      have hcl2 : w4.cell? ⟨g, L.length, none⟩ = some (.slice A3 0 c3) := hcl
      clear hpt4 heach hown4 hrow4 hB4 hAl hcl hv3 hlast hrl hg1 hg2 hb4 hbl hrow hone hs hcap
      go_wp2
      go_loop [64] (fun i => ∃ k : Nat, k ≤ L.length ∧ i = .int .i64 k) (fun i => L.length - (intOf i).toNat)
      case atStart => exact ⟨0, Nat.zero_le _, rfl⟩
      case round =>
        obtain ⟨k, hk, rfl⟩ := hrel
        clear hcl2
        by_cases hks : k < L.length
        · obtain ⟨g5, hA5, _, _, hc5⟩ := own_at HR4.out (cells_get L k hks)
          obtain ⟨A7, c7, hv7, hown7⟩ := HP.out.2 k _ (HE.out k hks)
          obtain ⟨g7, hA7, _, _, hc7⟩ := own_at HO.out hv7
          rw [HAL.out] at hA7
          cases hA7
          have hget := get_any A7 [L[k]] c7 _ _ w4 (Rd.own hown7) (by unfold maxLen; simp)
          rw [getS_one] at hget
          obtain ⟨x, hx⟩ : ∃ x, L[k].toNat = x := ⟨_, rfl⟩
          have hxb : x < 256 := by rw [← hx]; exact L[k].toNat_lt
          rw [hx] at hc5 hget
          have HG := Lib.hid hget
          have hc7' : w4.cell? ⟨g, k, none⟩ = some (.slice A7 1 c7) := hc7
          rw [hA5]
          clear hget hx hown7 hv7 hA5 hc7
          go_wp2_with fail
          refine HG.out.mono ?_
          rintro e w5 ⟨rfl, rfl⟩
          go_wp2
          go_round
          case rel => exact ⟨k + 1, by omega, by go_num⟩
          case measure => simp [intOf]; omega
        · obtain rfl : k = L.length := by omega
          go_wp2_with fail
          refine (hex_any A5 L c5 _ _ w4 (Rd.own HR4.out) (Nat.le_refl _) (by omega)).mono ?_
          rintro e w5 ⟨rfl, hb5⟩
          have hB5 := HB.out.trans (hb5.mono HB.out.size)
          go_wp2_with fail
          refine (hex_any A l c _ _ w5 (hrd.below hB5 (Nat.le_refl _)) hB5.size (by omega)).mono ?_
          rintro e w6 ⟨rfl, hb6⟩
          have hB6 := hB5.trans (hb6.mono hB5.size)
          go_wp2_with fail
          refine (hex_any A2 m c2 _ _ w6 (hrd2.below hB6 (Nat.le_refl _)) hB6.size (by omega)).mono ?_
          rintro e w7 ⟨rfl, hb7⟩
          have hB7 := hB6.trans (hb7.mono hB6.size)
          have hx1 := hexL_length l
          have hx2 := hexL_length m
          have hcat : (⟨(hexL l).toArray⟩ : ByteArray) ++ ⟨(hexL m).toArray⟩ = ⟨(hexL L).toArray⟩ := by
            rw [ba_app, ← hexL_append, HL.out]
          have HRD := Lib.hid ((((Rd.own HR4.out).below hb5 (Nat.le_refl _)).below hb6 hb5.size).below hb7 (Nat.le_trans hb5.size hb6.size))
          have HSZ : Hid (w4.heap.size ≤ w7.heap.size) := Nat.le_trans hb5.size (Nat.le_trans hb6.size hb7.size)
          have HB7 := Lib.hid hB7
          clear hb5 hb6 hb7 hB5 hB6 hB7
          go_wp2_with fail
          refine (hex_any A5 L c5 _ _ w7 HRD.out HSZ.out (by omega)).mono ?_
          rintro e w8 ⟨rfl, hb8⟩
          have hB8 := HB7.out.trans (hb8.mono HB7.out.size)
          have hx3 := hexL_length L
          go_wp2
          go_ret
          exact ⟨rfl, hB8⟩
end Go.Proofs.Ytclnmihcjkbopaa
