/-
  Which block: the function values of Free and given, slices.IndexFunc and heap.find over each, heap.given. Every right heap.
-/
import Derived.Test.YtagajijjcjfopaaRightH
import Derived.Test.YtagajijjcjfopaaRoomH
import Derived.BigQuiet
namespace Go.Proofs.Ytagajijjcjfopaa
open Go.RowKit

structure RightH (B : List UInt8) (L : List Bk) (D : List Bool) : Prop where
  len : B.length = 64 * D.length
  one : 1 ≤ D.length
  most : D.length ≤ 64
  blk : Blk B.length 0 L
theorem blk_true {T f : Nat} {L : List Bk} (h : Blk T f L) : blkB T (f : Int) (zs L) = true := by
  induction L generalizing f with
  | nil => rfl
  | cons b r ih =>
    obtain ⟨h1, h2, h3, h4, h5, h6⟩ := h
    show (decide _ && blkB T _ (zs r)) = true
    simp only [Bool.and_eq_true, decide_eq_true_eq]
    exact ⟨by omega, ih h6⟩
theorem blk_of_true {T f : Nat} {L : List Bk} (h : blkB T (f : Int) (zs L) = true) : Blk T f L := by
  induction L generalizing f with
  | nil => trivial
  | cons b r ih =>
    change (decide _ && blkB T _ (zs r)) = true at h
    simp only [Bool.and_eq_true, decide_eq_true_eq] at h
    obtain ⟨h1, h2⟩ := h
    exact ⟨by omega, by omega, by omega, by omega, by omega, ih h2⟩
theorem blk_bound {T f : Nat} {L : List Bk} (h : Blk T f L) : ∀ b ∈ L, f ≤ b.1 ∧ 8 ≤ b.2 ∧ b.1 + b.2 ≤ T := by
  induction L generalizing f with
  | nil => intro b hb; cases hb
  | cons x r ih =>
    obtain ⟨h1, h2, h3, h4, h5, h6⟩ := h
    intro b hb
    rcases List.mem_cons.1 hb with rfl | hb
    · exact ⟨h1, h3, h5⟩
    · obtain ⟨a1, a2, a3⟩ := ih h6 b hb
      exact ⟨by omega, a2, a3⟩
theorem blk_many {T f : Nat} {L : List Bk} (h : Blk T f L) (hf : f ≤ T) : L.length * 8 + f ≤ T := by
  induction L generalizing f with
  | nil => simpa using hf
  | cons x r ih =>
    obtain ⟨h1, h2, h3, h4, h5, h6⟩ := h
    have := ih h6 h5
    rw [List.length_cons]
    omega
section
variable {B : List UInt8} {L : List Bk} {D : List Bool}
theorem RightH.bytes (h : RightH B L D) : B.length ≤ 4096 := by have := h.len; have := h.most; omega
theorem RightH.many (h : RightH B L D) : L.length ≤ 512 := by have := blk_many h.blk (Nat.zero_le _); have := h.bytes; omega
theorem RightH.true_ (h : RightH B L D) : rightB B.length D.length (zs L) = true := by
  unfold rightB
  have e : blkB B.length 0 (zs L) = true := by simpa using blk_true (f := 0) h.blk
  rw [e, Bool.and_true, decide_eq_true_eq]
  have := h.len
  have := h.one
  have := h.most
  omega
theorem right_of_true (h : rightB B.length D.length (zs L) = true) : RightH B L D := by
  unfold rightB at h
  rw [Bool.and_eq_true, decide_eq_true_eq] at h
  exact ⟨by omega, by omega, by omega, blk_of_true (f := 0) (by simpa using h.2)⟩
theorem RightH.small (h : RightH B L D) : ∀ b ∈ zs L, I64 b.1 ∧ I64 b.2 := by
  intro b hb
  obtain ⟨x, hx, rfl⟩ := List.mem_map.1 hb
  have := blk_bound h.blk x hx
  have := h.bytes
  unfold I64
  simp only
  omega
end
theorem right_hp {B : List UInt8} {L : List Bk} {D : List Bool} {base : Nat} {v : Value} {w : World} (hv : Hp base B L D v w) (h : RightH B L D) :
    Calls Try.prog 15 #[v] w fun e w' => e = .returned (.bool true) ∧ Below w.heap.size w w' := by
  obtain ⟨v1, v2, v3, rfl, hv⟩ := hv
  obtain ⟨A1, c1, A2, c2, A3, c3, rfl, rfl, rfl⟩ := hv.forms
  rw [← h.true_]
  exact right_any A1 A2 A3 _ _ _ c1 c2 c3 (zs L) base w.heap.size w (by rw [← bks_zs]; exact ownk_rd hv.2.1) (Nat.le_refl _) (zs_length L) h.small (by have := h.bytes; unfold maxLen; omega) (by have := h.many; omega) (by have := h.most; unfold maxLen; omega)

def idxV {α : Type} (f : α → Bool) (l : List α) : Int := match l.findIdx? f with | some i => (i : Int) | none => -1
theorem idx_some {α : Type} {f : α → Bool} {l : List α} {k : Nat} {h : α} (hk : l[k]? = some h) (hf : f h = true) (hno : ∀ j h, j < k → l[j]? = some h → f h = false) : l.findIdx? f = some k := by
  have hlt := (List.getElem?_eq_some_iff.1 hk).1
  refine List.findIdx?_eq_some_iff_getElem.2 ⟨hlt, ?_, fun j hj => ?_⟩
  · rw [(List.getElem?_eq_some_iff.1 hk).2]
    exact hf
  · rw [hno j _ hj (List.getElem?_eq_getElem (by omega))]
    simp
theorem idx_none {α : Type} {f : α → Bool} {l : List α} (hno : ∀ j h, j < l.length → l[j]? = some h → f h = false) : l.findIdx? f = none := by
  refine List.findIdx?_eq_none_iff.2 fun x hx => ?_
  obtain ⟨j, hj, rfl⟩ := List.mem_iff_getElem.1 hx
  exact hno j _ hj (List.getElem?_eq_getElem hj)
/-- begins there; holds so many bytes from there on -/
def atB (x : Int) (b : Bk) : Bool := decide ((b.1 : Int) = x)
def inB (x n : Int) (b : Bk) : Bool := decide ((b.1 : Int) ≤ x ∧ n ≤ (b.1 : Int) + (b.2 : Int) - x)

set_option maxHeartbeats 400000 in
theorem free1_any (a m : Nat) (x : Int) (b : Nat) (w : World) (hg : w.heap[b]? = some (.cells #[.int .i64 x] 3 (0, 0))) :
    Calls Try.prog 42 #[.agg #[.int .i64 (a : Int), .int .i64 (m : Int)], .pointer (some ⟨b, 0, none⟩)] w fun e w' => e = .returned (.bool (atB x (a, m))) ∧ Below w.heap.size w w' := by
  have hx := one_cells (old_alloc hg (.cells #[.int .i64 (a : Int), .int .i64 (m : Int)] 62))
  have HB := Lib.hid ((Below.refl w.heap.size w).alloc (Nat.le_refl _) (.cells #[.int .i64 (a : Int), .int .i64 (m : Int)] 62))
  have HN := Lib.hid (two_cells (heap_alloc_new w (.cells #[.int .i64 (a : Int), .int .i64 (m : Int)] 62)))
  go_enter Try.func42, Try.ntmps42
  go_wp2
  go_ret
  refine ⟨?_, HB.out⟩
  unfold atB
  rfl

set_option maxRecDepth 100000 in
set_option maxHeartbeats 400000 in
theorem given1_any (a m : Nat) (x n : Int) (b4 b5 : Nat) (w : World) (hg : w.heap[b4]? = some (.cells #[.int .i64 x] 3 (0, 0))) (hg2 : w.heap[b5]? = some (.cells #[.int .i64 n] 3 (0, 0))) (hm : a + m ≤ 100000) (hx : I64 x) (hn : I64 n) :
    Calls Try.prog 51 #[.agg #[.int .i64 (a : Int), .int .i64 (m : Int)], .pointer (some ⟨b4, 0, none⟩), .pointer (some ⟨b5, 0, none⟩)] w fun e w' => e = .returned (.bool (inB x n (a, m))) ∧ Below w.heap.size w w' := by
  unfold I64 at hx hn
  obtain ⟨w1, hw1⟩ : ∃ w1, w.alloc (.cells #[.int .i64 (a : Int), .int .i64 (m : Int)] 62) = w1 := ⟨_, rfl⟩
  have HX : Hid (w1.heap[b4]? = some (.cells #[.int .i64 x] 3 (0, 0))) := by rw [← hw1]; exact old_alloc hg _
  have HY : Hid (w1.heap[b5]? = some (.cells #[.int .i64 n] 3 (0, 0))) := by rw [← hw1]; exact old_alloc hg2 _
  have HG1 : Hid (w1.heap[w.heap.size]? = some (.cells #[.int .i64 (a : Int), .int .i64 (m : Int)] 62 (0, 0))) := by rw [← hw1]; exact heap_alloc_new w _
  have HB1 : Hid (Below w.heap.size w w1) := by rw [← hw1]; exact (Below.refl _ _).alloc (Nat.le_refl _) _
  clear hg hg2
  by_cases q : (a : Int) ≤ x
  · have hw2 : IntKind.i64.wrap ((a : Int) + (m : Int) - x) = (a : Int) + (m : Int) - x := IntWalk.i64_in _ ⟨by omega, by omega⟩
    have HQ : Hid (inB x n (a, m) = decide (n ≤ (a : Int) + (m : Int) - x)) := by
      show _ = _
      unfold inB
      congr 1
      apply propext
      exact ⟨fun h => h.2, fun h => ⟨q, h⟩⟩
    rw [HQ.out]
    clear HQ
    go_enter Try.func51, Try.ntmps51
    go_wp2_with fail
    clear hw1
    apply wp_region_relyQ (fun _ => true) (fun _ => False) (RL [Is _, Is _, Is _, Is (.bool true), Is (.bool true), Is _, Is (.agg #[.int .i64 (a : Int), .int .i64 (m : Int)]), Is (.int .i64 ((a : Int) + (m : Int))), Is _, Is _, Is _, Is _, Is _]) [false, false, false, false, true, true, true, true, true, true, true, true, true, true, true, true, true]
    · kernel_rfl
    · kernel_rfl
    · kernel_rfl
    · refine ⟨?_, ?_, ?_, ?_, ?_, ?_, ?_, ?_, ?_, ?_, ?_, ?_, ?_, trivial⟩
      · refine ⟨rfl, ?_⟩
        refine (if_pos (by decide)).mpr ?_
        intro ev w' hC hc hf hb hr K hK
        have e1 : ev (.tmp 1) = _ := hb 1 (by kernel_rfl)
        have HK := Lib.hid hK
        have HC := Lib.hid hC
        clear hb hr hK hC hf
        have cx := one_cells (old_below HX.out HC.out.belowF (row_lt HX.out))
        unfold Run
        simp [execOp, Upon, go_sem, *]
        exact HK.out _ _ (.inl (Below.refl _ _)) rfl
      · refine ⟨rfl, ?_⟩
        refine (if_pos (by decide)).mpr ?_
        intro ev w' hC hc hf hb hr K hK
        have e3 : ev (.tmp 3) = _ := hb 3 (by kernel_rfl)
        have HK := Lib.hid hK
        have HC := Lib.hid hC
        clear hb hr hK hC hf
        unfold Run
        simp [execOp, Upon, go_sem, *]
        exact HK.out _ _ (.inl (Below.refl _ _)) rfl
      · refine ⟨rfl, ?_⟩
        refine (if_pos (by decide)).mpr ?_
        intro ev w' hC hc hf hb hr K hK
        have e6 := hr 1 _ rfl (by kernel_rfl)
        change ev (.tmp 6) = _ at e6
        have HK := Lib.hid hK
        have HC := Lib.hid hC
        clear hb hr hK hC hf
        have ca := (two_cells (old_below HG1.out HC.out.belowF (row_lt HG1.out))).1
        unfold Run
        simp [execOp, Upon, go_sem, *]
        exact HK.out _ _ (.inl (Below.refl _ _)) rfl
      · refine ⟨rfl, ?_⟩
        refine (if_pos (by decide)).mpr ?_
        intro ev w' hC hc hf hb hr K hK
        have e5 := hr 0 _ rfl (by kernel_rfl)
        have e7 := hr 2 _ rfl (by kernel_rfl)
        change ev (.tmp 5) = _ at e5
        change ev (.tmp 7) = _ at e7
        have HK := Lib.hid hK
        have HC := Lib.hid hC
        clear hb hr hK hC hf
        unfold Run
        simp [execOp, Upon, go_sem, *]
        exact HK.out _ _ (.inl (Below.refl _ _)) rfl
      · refine ⟨rfl, ?_⟩
        refine (if_pos (by decide)).mpr ?_
        intro ev w' hC hc hf hb hr K hK
        have e8 := hr 3 _ rfl (by kernel_rfl)
        change ev (.tmp 8) = _ at e8
        have HK := Lib.hid hK
        have HC := Lib.hid hC
        clear hb hr hK hC hf
        unfold Run
        simp [execOp, Upon, go_sem, *]
        exact HK.out _ _ (.inl (Below.refl _ _)) rfl
      · refine ⟨⟨_, _, rfl, rfl, fun v w h => h⟩, ?_⟩
        refine (if_pos (by decide)).mpr ?_
        intro ev w' hC hc hf hb hr K hK
        have e2 : ev (.tmp 2) = _ := hb 2 (by kernel_rfl)
        have HK := Lib.hid hK
        have HC := Lib.hid hC
        clear hb hr hK hC hf
        have cy := one_cells (old_below HY.out HC.out.belowF (row_lt HY.out))
        unfold Run
        simp [execOp, Upon, go_sem, *]
        exact HK.out _ _ (.inl (Below.refl _ _)) rfl
      · refine ⟨⟨_, _, rfl, rfl, fun v w h => h⟩, ?_⟩
        refine (if_pos (by decide)).mpr ?_
        intro ev w' hC hc hf hb hr K hK
        have e3 : ev (.tmp 3) = _ := hb 3 (by kernel_rfl)
        have HK := Lib.hid hK
        have HC := Lib.hid hC
        clear hb hr hK hC hf
        have q1 : ev (.tmp 3) = .pointer (some ⟨w.heap.size, 0, none⟩) := e3
        have hld := run_loadVar_row (P := Try.prog) w' w.heap.size 62 62 #[.int .i64 (a : Int), .int .i64 (m : Int)] (0, 0) _ (old_below HG1.out HC.out.belowF (row_lt HG1.out)) Try.underlying62 rfl (by kernel_rfl)
        unfold Run
        rw [run_loadE 62 _ rfl q1 hld]
        exact HK.out _ _ (.inl (Below.refl _ _)) rfl
      · refine ⟨⟨_, _, rfl, rfl, fun v w h => h⟩, ?_⟩
        refine (if_pos (by decide)).mpr ?_
        intro ev w' hC hc hf hb hr K hK
        have e11 := hr 6 _ rfl (by kernel_rfl)
        change ev (.tmp 11) = _ at e11
        have HK := Lib.hid hK
        have HC := Lib.hid hC
        clear hb hr hK hC
        unfold Run
        simp [execOp, Upon, go_sem, *]
        refine (end_any a m w' (by omega) (by omega) (by omega)).mono ?_
        rintro e w2 ⟨rfl, hb2⟩
        exact ⟨_, rfl, HK.out _ _ (.inl hb2) rfl⟩
      · refine ⟨⟨_, _, rfl, rfl, fun v w h => h⟩, ?_⟩
        refine (if_pos (by decide)).mpr ?_
        intro ev w' hC hc hf hb hr K hK
        have e1 : ev (.tmp 1) = _ := hb 1 (by kernel_rfl)
        have HK := Lib.hid hK
        have HC := Lib.hid hC
        clear hb hr hK hC hf
        have cx := one_cells (old_below HX.out HC.out.belowF (row_lt HX.out))
        unfold Run
        simp [execOp, Upon, go_sem, *]
        exact HK.out _ _ (.inl (Below.refl _ _)) rfl
      · refine ⟨⟨_, _, rfl, rfl, fun v w h => h⟩, ?_⟩
        refine (if_pos (by decide)).mpr ?_
        intro ev w' hC hc hf hb hr K hK
        have e12 := hr 7 _ rfl (by kernel_rfl)
        have e13 := hr 8 _ rfl (by kernel_rfl)
        change ev (.tmp 12) = _ at e12
        change ev (.tmp 13) = _ at e13
        have HK := Lib.hid hK
        have HC := Lib.hid hC
        clear hb hr hK hC hf
        unfold Run
        simp [execOp, Upon, go_sem, *]
        exact HK.out _ _ (.inl (Below.refl _ _)) rfl
      · refine ⟨⟨_, _, rfl, rfl, fun v w h => h⟩, ?_⟩
        refine (if_pos (by decide)).mpr ?_
        intro ev w' hC hc hf hb hr K hK
        have e10 := hr 5 _ rfl (by kernel_rfl)
        have e14 := hr 9 _ rfl (by kernel_rfl)
        change ev (.tmp 10) = _ at e10
        change ev (.tmp 14) = _ at e14
        have HK := Lib.hid hK
        have HC := Lib.hid hC
        clear hb hr hK hC hf
        unfold Run
        simp [execOp, Upon, go_sem, *]
        exact HK.out _ _ (.inl (Below.refl _ _)) rfl
      · refine ⟨rfl, ?_⟩
        refine (if_pos (by decide)).mpr ?_
        intro ev w' hC hc hf hb hr K hK
        have e9 := hr 4 _ rfl (by kernel_rfl)
        have e15 := hr 10 _ rfl (by kernel_rfl)
        change ev (.tmp 9) = _ at e9
        change ev (.tmp 15) = _ at e15
        have HK := Lib.hid hK
        have HC := Lib.hid hC
        clear hb hr hK hC hf
        unfold Run
        simp [execOp, Upon, go_sem, *]
        exact HK.out _ _ (.inl (Below.refl _ _)) rfl
      · refine ⟨rfl, ?_⟩
        refine (if_pos (by decide)).mpr ?_
        intro ev w' hC hc hf hb hr K hK
        have e16 := hr 11 _ rfl (by kernel_rfl)
        change ev (.tmp 16) = _ at e16
        have HK := Lib.hid hK
        have HC := Lib.hid hC
        clear hb hr hK hC hf
        unfold Run
        simp [execOp, Upon, go_sem, *]
        exact HK.out _ _ (.inl (Below.refl _ _)) rfl
    · exact rl_mono ⟨is_mono _, is_mono _, is_mono _, is_mono _, is_mono _, is_mono _, is_mono _, is_mono _, is_mono _, is_mono _, is_mono _, is_mono _, is_mono _, trivial⟩
    intro us wr hG hH
    obtain ⟨-, -, -, -, -, -, -, -, -, -, -, h11, h12, -⟩ := hH
    simp only [fillM]
    change us 16 = _ at h11
    rw [h11]
    clear h11
    change us 4 = _ at h12
    rw [h12]
    clear h12
    generalize us 5 = v5
    generalize us 6 = v6
    generalize us 7 = v7
    generalize us 8 = v8
    generalize us 9 = v9
    generalize us 10 = v10
    generalize us 11 = v11
    generalize us 12 = v12
    generalize us 13 = v13
    generalize us 14 = v14
    generalize us 15 = v15
    have HB2 : Hid (Below w.heap.size w wr) := HB1.out.trans (hG.belowF.mono HB1.out.size)
    clear hG
    go_wp2
    go_ret
    exact ⟨by simp, HB2.out⟩
  · have hq : decide ((a : Int) ≤ x) = false := decide_eq_false q
    have HQ : Hid (inB x n (a, m) = false) := by
      show _ = _
      exact decide_eq_false fun h => q h.1
    rw [HQ.out]
    have cx := one_cells HX.out
    have ca := (two_cells HG1.out).1
    clear HQ
    go_enter Try.func51, Try.ntmps51
    go_wp2_with fail
    clear hw1
    go_quiet (fail)
    rename_i nq
    have HB2 : Hid (Below w.heap.size w (w1.drewN nq)) := below_drewN' HB1.out nq
    generalize w1.drewN nq = w2 at HB2 ⊢
    clear cx ca
    go_wp2
    go_ret
    exact ⟨rfl, HB2.out⟩

set_option maxRecDepth 100000 in
set_option maxHeartbeats 400000 in
theorem idxat_any (A : Option Addr) (nk c : Nat) (L : List Bk) (x : Int) (b4 : Nat) (lo hi : Nat) (w : World) (h : Rd w lo hi A (bks L)) (hhi : hi ≤ w.heap.size) (hk : L.length = nk) (hL : ∀ b ∈ L, b.1 + b.2 ≤ 4096) (hkm : nk ≤ 4096) (hg : w.heap[b4]? = some (.cells #[.int .i64 x] 3 (0, 0))) :
    Calls Try.prog 52 #[.slice A nk c, .func (.func 42) #[] #[.pointer (some ⟨b4, 0, none⟩)]] w fun e w' => e = .returned (.int .i64 (idxV (atB x) L)) ∧ Below w.heap.size w w' := by
  have HR := Lib.hid h
  have HHI := Lib.hid hhi
  have HN := Lib.hid hk
  have HL := Lib.hid hL
  have HG := Lib.hid hg
  skip
  clear h hhi hk hL hg
  go_enter Try.func52, Try.ntmps52
  go_wp2
  go_loopw [8] (fun t8 wr => ∃ k : Nat, k ≤ nk ∧ t8 = .int .i64 (k : Int) ∧ Hid (∀ j h, j < k → L[j]? = some h → atB x h = false) ∧ Hid (Below w.heap.size w wr)) (fun t8 _ => nk - (intOf t8).toNat)
  case atStart => exact ⟨0, Nat.zero_le _, rfl, Lib.hid (fun j h hj => by omega), Lib.hid (Below.refl _ _)⟩
  case round =>
    obtain ⟨k, hk, rfl, HNO, HBEL⟩ := hrel
    by_cases hlt : k < nk
    · obtain ⟨⟨a, m⟩, hh⟩ : ∃ h, L[k]? = some h := ⟨_, List.getElem?_eq_getElem (by rw [HN.out]; exact hlt)⟩
      have ham := HL.out _ (List.mem_of_getElem? hh)
      simp only at ham
      obtain ⟨ad, rfl⟩ : ∃ ad, A = some ad := by
        obtain ⟨ad, e, _⟩ := HR.out 0 _ (List.getElem?_eq_getElem (by rw [bks_length, HN.out]; omega))
        exact ⟨ad, e⟩
      have HEL : Hid (∀ j v, [Value.int .i64 (a : Int), Value.int .i64 (m : Int)][j]? = some v → wr.cell? ((ad.add (k * 2)).add j) = some v) := by
        have := (HR.out.below HBEL.out HHI.out).elem (k := 2) k
        rw [bks_at L k _ hh] at this
        exact this
      have HHK := Lib.hid hh
      clear hh
      go_wp2_with (refine wpList_load_at rfl 62 _ rfl (ad.add (k * 2)) rfl [.int .i64 (a : Int), .int .i64 (m : Int)] _ HEL.out Try.underlying62 rfl (by kernel_rfl) ?_)
      refine (free1_any a m x b4 wr (old_below HG.out HBEL.out (row_lt HG.out))).mono ?_
      rintro e w2 ⟨rfl, hb⟩
      have HB2 := Lib.hid (HBEL.out.trans (hb.mono HBEL.out.size))
      clear hb
      cases hbl : atB x (a, m)
      · have HN2 : Hid (∀ j h, j < k + 1 → L[j]? = some h → atB x h = false) := fun j h' hj hj2 => by
          by_cases hjk : j < k
          · exact HNO.out j h' hjk hj2
          · obtain rfl : j = k := by omega
            rw [HHK.out] at hj2
            injection hj2 with hj2
            rw [← hj2]
            exact hbl
        clear hbl ham
        go_wp2
        go_roundw
        case rel => exact ⟨k + 1, by omega, by go_num, HN2, HB2⟩
        case measure => simp [intOf]; omega
      · have HV : Hid (idxV (atB x) L = (k : Int)) := by
          show _ = _
          unfold idxV
          rw [idx_some HHK.out hbl HNO.out]
        clear hbl ham
        go_wp2
        go_ret
        exact ⟨by rw [HV.out]; rfl, HB2.out⟩
    · obtain rfl : k = nk := by omega
      have HV : Hid (idxV (atB x) L = -1) := by
        show _ = _
        unfold idxV
        rw [idx_none fun j h hj hj2 => HNO.out j h (by rw [← HN.out]; exact hj) hj2]
      go_wp2
      go_ret
      exact ⟨by rw [HV.out]; rfl, HBEL.out⟩

set_option maxRecDepth 100000 in
set_option maxHeartbeats 400000 in
theorem findat_any {B : List UInt8} {L : List Bk} {D : List Bool} {base : Nat} {v : Value} (x : Int) (b4 : Nat) (w : World) (hv : Hp base B L D v w) (hR : RightH B L D) (hg : w.heap[b4]? = some (.cells #[.int .i64 x] 3 (0, 0))) :
    Calls Try.prog 41 #[v, .func (.func 42) #[] #[.pointer (some ⟨b4, 0, none⟩)]] w fun e w' => e = .returned (.int .i64 (idxV (atB x) L)) ∧ Below w.heap.size w w' := by
  obtain ⟨v1, v2, v3, rfl, hv⟩ := hv
  obtain ⟨A2, c2, rfl, -⟩ := ownk_form hv.2.1
  obtain ⟨nk, hk⟩ : ∃ n, L.length = n := ⟨_, rfl⟩
  have HL : Hid (∀ b ∈ L, b.1 + b.2 ≤ 4096) := fun b hb => by have := (blk_bound hR.blk b hb).2.2; have := hR.bytes; omega
  have HM : Hid (nk ≤ 4096) := by have := hR.many; show _ ≤ _; omega
  rw [hk]
  obtain ⟨w1, hw1⟩ : ∃ w1, w.alloc (.cells #[v1, .slice A2 nk c2, v3] 29) = w1 := ⟨_, rfl⟩
  have HC := Lib.hid (right_hp (w := w1) (by rw [← hw1]; exact hv.shut.alloc _) hR)
  rw [hk] at HC
  have HG1 : Hid (w1.heap[w.heap.size]? = some (.cells #[v1, .slice A2 nk c2, v3] 29 (0, 0))) := by rw [← hw1]; exact heap_alloc_new w _
  have HB1 : Hid (Below w.heap.size w w1) := by rw [← hw1]; exact (Below.refl _ _).alloc (Nat.le_refl _) _
  have HRD : Hid (Rd w base w.heap.size A2 (bks L)) := ownk_rd hv.2.1
  have HG := Lib.hid hg
  have HN := Lib.hid hk
  skip
  obtain ⟨cv0, cv1, cv2⟩ := three_cells HG1.out
  clear hv hR hk hg
  go_enter Try.func41, Try.ntmps41
  go_wp2_with fail
  refine HC.out.mono ?_
  rintro e w2 ⟨rfl, hb2⟩
  have HB2 := Lib.hid (HB1.out.trans (hb2.mono HB1.out.size))
  obtain ⟨dv0, dv1, dv2⟩ := three_cells (old_below HG1.out hb2 (row_lt HG1.out))
  clear hb2 cv0 cv1 cv2 hw1
  go_wp2_with fail
  refine (idxat_any A2 nk c2 L x b4 base w.heap.size w2 (HRD.out.below HB2.out (Nat.le_refl _)) HB2.out.size HN.out HL.out HM.out (old_below HG.out HB2.out (row_lt HG.out))).mono ?_
  rintro e w3 ⟨rfl, hb3⟩
  have HB3 := Lib.hid (HB2.out.trans (hb3.mono HB2.out.size))
  clear hb3 dv0 dv1 dv2
  go_wp2
  go_ret
  exact ⟨rfl, HB3.out⟩

set_option maxRecDepth 100000 in
set_option maxHeartbeats 400000 in
theorem idxin_any (A : Option Addr) (nk c : Nat) (L : List Bk) (x n : Int) (b4 b5 : Nat) (lo hi : Nat) (w : World) (h : Rd w lo hi A (bks L)) (hhi : hi ≤ w.heap.size) (hk : L.length = nk) (hL : ∀ b ∈ L, b.1 + b.2 ≤ 4096) (hkm : nk ≤ 4096) (hg : w.heap[b4]? = some (.cells #[.int .i64 x] 3 (0, 0))) (hg2 : w.heap[b5]? = some (.cells #[.int .i64 n] 3 (0, 0))) (hx : I64 x) (hn : I64 n) :
    Calls Try.prog 52 #[.slice A nk c, .func (.func 51) #[] #[.pointer (some ⟨b4, 0, none⟩), .pointer (some ⟨b5, 0, none⟩)]] w fun e w' => e = .returned (.int .i64 (idxV (inB x n) L)) ∧ Below w.heap.size w w' := by
  have HR := Lib.hid h
  have HHI := Lib.hid hhi
  have HN := Lib.hid hk
  have HL := Lib.hid hL
  have HG := Lib.hid hg
  have HG2 := Lib.hid hg2
  have HXX := Lib.hid hx
  have HNN := Lib.hid hn
  clear hg2 hx hn
  clear h hhi hk hL hg
  go_enter Try.func52, Try.ntmps52
  go_wp2
  go_loopw [8] (fun t8 wr => ∃ k : Nat, k ≤ nk ∧ t8 = .int .i64 (k : Int) ∧ Hid (∀ j h, j < k → L[j]? = some h → inB x n h = false) ∧ Hid (Below w.heap.size w wr)) (fun t8 _ => nk - (intOf t8).toNat)
  case atStart => exact ⟨0, Nat.zero_le _, rfl, Lib.hid (fun j h hj => by omega), Lib.hid (Below.refl _ _)⟩
  case round =>
    obtain ⟨k, hk, rfl, HNO, HBEL⟩ := hrel
    by_cases hlt : k < nk
    · obtain ⟨⟨a, m⟩, hh⟩ : ∃ h, L[k]? = some h := ⟨_, List.getElem?_eq_getElem (by rw [HN.out]; exact hlt)⟩
      have ham := HL.out _ (List.mem_of_getElem? hh)
      simp only at ham
      obtain ⟨ad, rfl⟩ : ∃ ad, A = some ad := by
        obtain ⟨ad, e, _⟩ := HR.out 0 _ (List.getElem?_eq_getElem (by rw [bks_length, HN.out]; omega))
        exact ⟨ad, e⟩
      have HEL : Hid (∀ j v, [Value.int .i64 (a : Int), Value.int .i64 (m : Int)][j]? = some v → wr.cell? ((ad.add (k * 2)).add j) = some v) := by
        have := (HR.out.below HBEL.out HHI.out).elem (k := 2) k
        rw [bks_at L k _ hh] at this
        exact this
      have HHK := Lib.hid hh
      clear hh
      go_wp2_with (refine wpList_load_at rfl 62 _ rfl (ad.add (k * 2)) rfl [.int .i64 (a : Int), .int .i64 (m : Int)] _ HEL.out Try.underlying62 rfl (by kernel_rfl) ?_)
      refine (given1_any a m x n b4 b5 wr (old_below HG.out HBEL.out (row_lt HG.out)) (old_below HG2.out HBEL.out (row_lt HG2.out)) (by omega) HXX.out HNN.out).mono ?_
      rintro e w2 ⟨rfl, hb⟩
      have HB2 := Lib.hid (HBEL.out.trans (hb.mono HBEL.out.size))
      clear hb
      cases hbl : inB x n (a, m)
      · have HN2 : Hid (∀ j h, j < k + 1 → L[j]? = some h → inB x n h = false) := fun j h' hj hj2 => by
          by_cases hjk : j < k
          · exact HNO.out j h' hjk hj2
          · obtain rfl : j = k := by omega
            rw [HHK.out] at hj2
            injection hj2 with hj2
            rw [← hj2]
            exact hbl
        clear hbl ham
        go_wp2
        go_roundw
        case rel => exact ⟨k + 1, by omega, by go_num, HN2, HB2⟩
        case measure => simp [intOf]; omega
      · have HV : Hid (idxV (inB x n) L = (k : Int)) := by
          show _ = _
          unfold idxV
          rw [idx_some HHK.out hbl HNO.out]
        clear hbl ham
        go_wp2
        go_ret
        exact ⟨by rw [HV.out]; rfl, HB2.out⟩
    · obtain rfl : k = nk := by omega
      have HV : Hid (idxV (inB x n) L = -1) := by
        show _ = _
        unfold idxV
        rw [idx_none fun j h hj hj2 => HNO.out j h (by rw [← HN.out]; exact hj) hj2]
      go_wp2
      go_ret
      exact ⟨by rw [HV.out]; rfl, HBEL.out⟩

set_option maxRecDepth 100000 in
set_option maxHeartbeats 400000 in
theorem findin_any {B : List UInt8} {L : List Bk} {D : List Bool} {base : Nat} {v : Value} (x n : Int) (b4 b5 : Nat) (w : World) (hv : Hp base B L D v w) (hR : RightH B L D) (hg : w.heap[b4]? = some (.cells #[.int .i64 x] 3 (0, 0))) (hg2 : w.heap[b5]? = some (.cells #[.int .i64 n] 3 (0, 0))) (hx : I64 x) (hn : I64 n) :
    Calls Try.prog 41 #[v, .func (.func 51) #[] #[.pointer (some ⟨b4, 0, none⟩), .pointer (some ⟨b5, 0, none⟩)]] w fun e w' => e = .returned (.int .i64 (idxV (inB x n) L)) ∧ Below w.heap.size w w' := by
  obtain ⟨v1, v2, v3, rfl, hv⟩ := hv
  obtain ⟨A2, c2, rfl, -⟩ := ownk_form hv.2.1
  obtain ⟨nk, hk⟩ : ∃ n, L.length = n := ⟨_, rfl⟩
  have HL : Hid (∀ b ∈ L, b.1 + b.2 ≤ 4096) := fun b hb => by have := (blk_bound hR.blk b hb).2.2; have := hR.bytes; omega
  have HM : Hid (nk ≤ 4096) := by have := hR.many; show _ ≤ _; omega
  rw [hk]
  obtain ⟨w1, hw1⟩ : ∃ w1, w.alloc (.cells #[v1, .slice A2 nk c2, v3] 29) = w1 := ⟨_, rfl⟩
  have HC := Lib.hid (right_hp (w := w1) (by rw [← hw1]; exact hv.shut.alloc _) hR)
  rw [hk] at HC
  have HG1 : Hid (w1.heap[w.heap.size]? = some (.cells #[v1, .slice A2 nk c2, v3] 29 (0, 0))) := by rw [← hw1]; exact heap_alloc_new w _
  have HB1 : Hid (Below w.heap.size w w1) := by rw [← hw1]; exact (Below.refl _ _).alloc (Nat.le_refl _) _
  have HRD : Hid (Rd w base w.heap.size A2 (bks L)) := ownk_rd hv.2.1
  have HG := Lib.hid hg
  have HN := Lib.hid hk
  have HG2 := Lib.hid hg2
  have HXX := Lib.hid hx
  have HNN := Lib.hid hn
  clear hg2 hx hn
  obtain ⟨cv0, cv1, cv2⟩ := three_cells HG1.out
  clear hv hR hk hg
  go_enter Try.func41, Try.ntmps41
  go_wp2_with fail
  refine HC.out.mono ?_
  rintro e w2 ⟨rfl, hb2⟩
  have HB2 := Lib.hid (HB1.out.trans (hb2.mono HB1.out.size))
  obtain ⟨dv0, dv1, dv2⟩ := three_cells (old_below HG1.out hb2 (row_lt HG1.out))
  clear hb2 cv0 cv1 cv2 hw1
  go_wp2_with fail
  refine (idxin_any A2 nk c2 L x n b4 b5 base w.heap.size w2 (HRD.out.below HB2.out (Nat.le_refl _)) HB2.out.size HN.out HL.out HM.out (old_below HG.out HB2.out (row_lt HG.out)) (old_below HG2.out HB2.out (row_lt HG2.out)) HXX.out HNN.out).mono ?_
  rintro e w3 ⟨rfl, hb3⟩
  have HB3 := Lib.hid (HB2.out.trans (hb3.mono HB2.out.size))
  clear hb3 dv0 dv1 dv2
  go_wp2
  go_ret
  exact ⟨rfl, HB3.out⟩

def givenB (L : List Bk) (x n : Int) : Bool := L.any (inB x n)
theorem given_idx (L : List Bk) (x n : Int) : decide (0 ≤ idxV (inB x n) L) = givenB L x n := by
  unfold idxV givenB
  cases h : L.findIdx? (inB x n) with
  | none =>
    have h2 := List.findIdx?_eq_none_iff.1 h
    have : L.any (inB x n) = false := List.any_eq_false.2 fun b hb => by rw [h2 b hb]; simp
    rw [this]
    rfl
  | some i =>
    obtain ⟨hi, hp, _⟩ := List.findIdx?_eq_some_iff_getElem.1 h
    have : L.any (inB x n) = true := List.any_eq_true.2 ⟨_, List.getElem_mem hi, hp⟩
    rw [this]
    exact decide_eq_true (by simp only; omega)
set_option maxRecDepth 100000 in
set_option maxHeartbeats 400000 in
theorem given_any {B : List UInt8} {L : List Bk} {D : List Bool} {base : Nat} {v : Value} (x n : Int) (w : World) (hv : Hp base B L D v w) (hR : RightH B L D) (hx : I64 x) (hn : I64 n) :
    Calls Try.prog 39 #[v, .int .i64 x, .int .i64 n] w fun e w' => e = .returned (.bool (givenB L x n)) ∧ Below w.heap.size w w' := by
  have HV := Lib.hid hv
  obtain ⟨v1, v2, v3, rfl, hv⟩ := hv
  have h1 := hv.ones
  obtain ⟨w1, hw1⟩ : ∃ w1, ((w.alloc (.cells #[v1, v2, v3] 29)).alloc (.cells #[.int .i64 x] 3)).alloc (.cells #[.int .i64 n] 3) = w1 := ⟨_, rfl⟩
  have HC : Hid (Calls Try.prog 41 #[.agg #[v1, v2, v3], .func (.func 51) #[] #[.pointer (some ⟨w.heap.size + 1, 0, none⟩), .pointer (some ⟨w.heap.size + 2, 0, none⟩)]] w1 fun e w' => e = .returned (.int .i64 (idxV (inB x n) L)) ∧ Below w1.heap.size w1 w') := by
    refine findin_any (base := base) x n _ _ w1 ?_ hR ?_ ?_ hx hn
    · rw [← hw1]; exact ((hv.shut.alloc _).alloc _).alloc _
    · rw [← hw1]
      have := heap_alloc_new (w.alloc (.cells #[v1, v2, v3] 29)) (.cells #[.int .i64 x] 3)
      rw [World.size_alloc] at this
      exact old_alloc this _
    · rw [← hw1]
      have := heap_alloc_new ((w.alloc (.cells #[v1, v2, v3] 29)).alloc (.cells #[.int .i64 x] 3)) (.cells #[.int .i64 n] 3)
      rwa [World.size_alloc, World.size_alloc] at this
  have HG1 : Hid (w1.heap[w.heap.size]? = some (.cells #[v1, v2, v3] 29 (0, 0))) := by rw [← hw1]; exact old_alloc (old_alloc (heap_alloc_new w _) _) _
  have HB1 : Hid (Below w.heap.size w w1) := by rw [← hw1]; exact (((Below.refl _ _).alloc (Nat.le_refl _) _).alloc (by simp) _).alloc (by simp; omega) _
  have HI := Lib.hid (given_idx L x n)
  generalize idxV (inB x n) L = r at *
  obtain ⟨cv0, cv1, cv2⟩ := three_cells HG1.out
  clear hv hR hx hn h1 HV
  go_enter Try.func39, Try.ntmps39
  go_wp2_with fail
  refine HC.out.mono ?_
  rintro e w2 ⟨rfl, hb2⟩
  have HB2 := Lib.hid (HB1.out.trans (hb2.mono HB1.out.size))
  clear hb2 cv0 cv1 cv2 hw1
  go_wp2
  go_ret
  exact ⟨by rw [← HI.out]; rfl, HB2.out⟩
end Go.Proofs.Ytagajijjcjfopaa
