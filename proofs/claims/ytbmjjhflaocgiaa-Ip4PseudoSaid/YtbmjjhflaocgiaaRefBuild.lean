/-
  The document's own answer for a packet's bytes (caravelref06.Build): the text of the bytes that the plain function gives. Every packet that can be read.
-/
import Derived.Test.YtbmjjhflaocgiaaPv
import Derived.StillTailTactics
namespace Go.Proofs.Ytbmjjhflaocgiaa
open Go.RowKit

theorem loads_of {w : World} {lo hi : Nat} {a : Addr} {xs : List Value} (h : Rd w lo hi (some a) xs) : ∀ j v, xs[j]? = some v → w.cell? (a.add j) = some v := fun j v hv => by
  obtain ⟨ad, e, _, _, hc⟩ := h j v hv
  cases e
  exact hc
theorem str_app (l m : List UInt8) : (⟨l.toArray⟩ : ByteArray) ++ ⟨m.toArray⟩ = ⟨(l ++ m).toArray⟩ := ba_app l m

set_option maxRecDepth 100000 in
set_option maxHeartbeats 1000000 in
theorem refbuild_arg (cs : Array Value) (more : Bool) (off : Int) (A : Option Addr) (n c : Nat) (w : World) (h1 : cs[1]? = some (.bool more)) (h2 : cs[2]? = some (.int .i64 off)) (h13 : cs[13]? = some (.slice A n c)) (hm : n ≤ 9223372036854775807)
    (hoff : -9223372036854775808 ≤ off ∧ off ≤ 9223372036854775807) (hp : ¬ ((0 ≤ off ∧ off ≤ 65528 ∧ off % 8 = 0) ∧ (more = true → n % 8 = 0))) :
    Calls Try.prog 10 #[.agg cs] w fun e w' => e = .returned (.tuple #[txt [], .int .i64 1]) ∧ Below w.heap.size w w' := by
  have HB := Lib.hid ((Below.refl w.heap.size w).alloc (Nat.le_refl _) (.cells cs 27))
  obtain ⟨hoff1, hoff2⟩ := hoff
  by_cases c1 : off < 0
  · clear hp
    go_enter Try.func10, Try.ntmps10
    go_wp2
    go_ret2
    exact ⟨rfl, HB.out⟩
  · by_cases c2 : 65528 < off
    · have c3 : 0 ≤ off := by omega
      clear hp c1
      go_enter Try.func10, Try.ntmps10
      go_wp2
      go_ret2
      exact ⟨rfl, HB.out⟩
    · have c3 : 0 ≤ off := by omega
      have c4 : off ≤ 65528 := by omega
      clear c1 c2
      by_cases c5 : off % 8 = 0
      · have c6 : (off % 8 != 0) = false := bneF c5
        obtain ⟨rfl, c7⟩ : more = true ∧ n % 8 ≠ 0 := by
          cases more
          · exact absurd ⟨⟨c3, c4, c5⟩, fun h => by cases h⟩ hp
          · exact ⟨rfl, fun h => hp ⟨⟨c3, c4, c5⟩, fun _ => h⟩⟩
        have c8 : ((n : Int) % 8 != 0) = true := bneT (by omega)
        clear hp c5 c7
        go_enter Try.func10, Try.ntmps10
        go_wp2
        go_ret2
        exact ⟨rfl, HB.out⟩
      · have c6 : (off % 8 != 0) = true := bneT c5
        clear hp c5
        go_enter Try.func10, Try.ntmps10
        go_wp2
        go_ret2
        exact ⟨rfl, HB.out⟩
set_option maxRecDepth 100000 in
set_option maxHeartbeats 1000000 in
theorem refbuild_long (cs : Array Value) (more : Bool) (off : Int) (A : Option Addr) (n c : Nat) (w : World) (h1 : cs[1]? = some (.bool more)) (h2 : cs[2]? = some (.int .i64 off)) (h13 : cs[13]? = some (.slice A n c)) (hm : n ≤ 9223372036854775807)
    (hp : (0 ≤ off ∧ off ≤ 65528 ∧ off % 8 = 0) ∧ (more = true → n % 8 = 0)) (hl : 180 < n) :
    Calls Try.prog 10 #[.agg cs] w fun e w' => e = .returned (.tuple #[txt [], .int .i64 4]) ∧ Below w.heap.size w w' := by
  have HB := Lib.hid ((Below.refl w.heap.size w).alloc (Nat.le_refl _) (.cells cs 27))
  obtain ⟨⟨c3, c4, c5⟩, c7⟩ := hp
  have c6 : (off % 8 != 0) = false := bneF c5
  clear c5
  cases more
  · clear c7
    go_enter Try.func10, Try.ntmps10
    go_wp2
    go_ret2
    exact ⟨rfl, HB.out⟩
  · have c8 : ((n : Int) % 8 != 0) = false := bneF (by have := c7 rfl; omega)
    clear c7
    go_enter Try.func10, Try.ntmps10
    go_wp2
    go_ret2
    exact ⟨rfl, HB.out⟩

set_option maxRecDepth 100000 in
set_option maxHeartbeats 4000000 in
theorem refbuild_fits (cs : Array Value) (id : Nat) (more : Bool) (off : Int) (ttl proto s0 s1 s2 s3 d0 d1 d2 d3 : UInt8) (data : List UInt8) (A : Option Addr) (n c lo hi m q pl S : Nat) (w : World) (fr bk ba bs : List UInt8)
    (h0 : cs[0]? = some (.int .u16 id)) (h1 : cs[1]? = some (.bool more)) (h2 : cs[2]? = some (.int .i64 off)) (h3 : cs[3]? = some (.int .u8 (ttl.toNat : Int))) (h4 : cs[4]? = some (.int .u8 (proto.toNat : Int))) (h13 : cs[13]? = some (.slice A n c))
    (hsrc : ∀ (k : Nat) u, (cells [s0, s1, s2, s3])[k]? = some u → cs[5 + k]? = some u) (hdst : ∀ (k : Nat) u, (cells [d0, d1, d2, d3])[k]? = some u → cs[9 + k]? = some u)
    (hp : (0 ≤ off ∧ off ≤ 65528 ∧ off % 8 = 0) ∧ (more = true → n % 8 = 0)) (hl : n ≤ 180) (hid : id < 65536) (hm : 20 + n = m) (hq : off / 8 = (q : Int)) (hpl : pl = q + (if more then 8192 else 0))
    (hrd : Rd w lo hi A (cells data)) (hhi : hi ≤ w.heap.size) (hn : data.length = n)
    (hfr : [69, 0] ++ two m ++ two id ++ two pl ++ [ttl, proto] = fr) (hbk : [s0, s1, s2, s3] ++ [d0, d1, d2, d3] = bk) (hba : fr ++ [0, 0] ++ bk = ba) (hS : 65535 - sumL ba = S) (hbs : bs = fr ++ two S ++ bk ++ data) :
    Calls Try.prog 10 #[.agg cs] w fun e w' => e = .returned (.tuple #[txt bs, .int .i64 0]) ∧ Below w.heap.size w w' := by
  have HB := Lib.hid ((Below.refl w.heap.size w).alloc (Nat.le_refl _) (.cells cs 27))
  have HG1 := Lib.hid (heap_alloc_new w (.cells cs 27))
  have HW1 : Hid (w.heap.size < (w.alloc (.cells cs 27)).heap.size) := row_lt HG1.out
  have HRD1 := Lib.hid (hrd.alloc hhi (.cells cs 27))
  have HHI := Lib.hid hhi
  have HN := Lib.hid hn
  have H0 := Lib.hid h0
  have H3 := Lib.hid h3
  have H4 := Lib.hid h4
  have H13 := Lib.hid h13
  have HSRC := Lib.hid hsrc
  have HDST := Lib.hid hdst
  have hm20 : (20 : Int) + (n : Int) = (m : Int) := by omega
  have hm63w : IntKind.i64.wrap (20 + (n : Int)) = (m : Int) := by rw [hm20]; exact IntWalk.i64_in _ ⟨by omega, by omega⟩
  have HM63 := Lib.hid hm63w
  have HI63 : Hid (IntKind.i64.wrap (id : Int) = (id : Int)) := IntWalk.i64_in _ ⟨by omega, by omega⟩
  have hm2 : m ≤ 200 := by omega
  have hS2 : S < 65536 := by omega
  have HS63 : Hid (IntKind.i64.wrap (S : Int) = (S : Int)) := IntWalk.i64_in _ ⟨by omega, by omega⟩
  have FR := Lib.hid hfr
  have BK := Lib.hid hbk
  have BA := Lib.hid hba
  have HSV := Lib.hid hS
  have HBS := Lib.hid hbs
  have FRT : Hid (Value.string ((⟨#[69, 0]⟩ : ByteArray) ++ ⟨(two m).toArray⟩ ++ ⟨(two id).toArray⟩ ++ ⟨(two pl).toArray⟩ ++ ⟨#[ttl, proto]⟩) = txt ([69, 0] ++ two m ++ two id ++ two pl ++ [ttl, proto])) := by
    show _ = _
    congr 1
    all_goals (apply ByteArray.ext; simp)
  have BKT : Hid (Value.string ((⟨#[s0, s1, s2, s3]⟩ : ByteArray) ++ ⟨#[d0, d1, d2, d3]⟩) = txt ([s0, s1, s2, s3] ++ [d0, d1, d2, d3])) := by
    show _ = _
    congr 1
  have BAT : Hid (Value.string ((⟨fr.toArray⟩ : ByteArray) ++ ⟨#[0, 0]⟩ ++ ⟨bk.toArray⟩) = txt (fr ++ [0, 0] ++ bk)) := by
    show _ = _
    congr 1
    all_goals (apply ByteArray.ext; simp)
  have BST : Hid (Value.string ((⟨fr.toArray⟩ : ByteArray) ++ ⟨(two S).toArray⟩ ++ ⟨bk.toArray⟩ ++ ⟨data.toArray⟩) = txt (fr ++ two S ++ bk ++ data)) := by
    show _ = _
    congr 1
    all_goals (apply ByteArray.ext; simp)
  have BAL : Hid (ba.length ≤ 1000000) := by show _ ≤ _; rw [← hba, ← hfr, ← hbk]; simp [two_length]
  obtain ⟨⟨c3, c4, c5⟩, c7⟩ := hp
  have hpl6 : pl < 65536 := by
    rw [hpl]
    split <;> omega
  have c6 : (off % 8 != 0) = false := bneF c5
  have hplI : (more = false → off / 8 = (pl : Int)) ∧ (more = true → (q : Int) + 8192 = (pl : Int)) := by
    constructor
    · rintro rfl; rw [if_neg (by simp)] at hpl; omega
    · rintro rfl; rw [if_pos rfl] at hpl; omega
  have hq8 : q ≤ 8191 := by omega
  clear hrd hhi hn h0 h3 h4 hsrc hdst hm hm20 hm63w hfr hbk hba hS hbs c5 hpl
  cases more
  all_goals
    first
    | (have hd := hplI.1 rfl; clear hq c7)
    | (have hd := hplI.2 rfl; have c8 : ((n : Int) % 8 != 0) = false := bneF (by have := c7 rfl; omega); clear c7)
    clear hplI
    go_enter Try.func10, Try.ntmps10
    go_wp2_with fail
    try rw [hd]
    have HB1 := HB
    have HW0 := HW1
    clear hd c6 HB
    try clear c8
    try clear hq
    clear h1 h2 h13
    generalize w.alloc (.cells cs 27) = w0 at HB1 HG1 HW1 HW0 HRD1 ⊢
    have KEY : Hid (∀ (k : Nat) u, cs[k]? = some u → ∀ w', Gro (fun _ => False) w0 w' → w'.cell? ⟨w.heap.size, k, none⟩ = some u) := fun k u hu w' hg => by
      rw [cell_of_row _ _ _ _ _ _ ((hg.block _ HW1.out (fun h => h)).trans HG1.out)]
      exact hu
    have RDG : Hid (∀ (o : Nat) xs, (∀ (k : Nat) u, xs[k]? = some u → cs[o + k]? = some u) → ∀ w', Gro (fun _ => False) w0 w' → Rd w' 0 w'.heap.size (some ⟨w.heap.size, o, none⟩) xs) := fun o xs h w' hg => by
      have hr := (hg.block _ HW1.out (fun h => h)).trans HG1.out
      exact (rd_mid hr h).wide (Nat.zero_le _) (row_lt hr)
    have HRB : Hid (∀ w', Gro (fun _ => False) w0 w' → Rd w' 0 w'.heap.size A (cells data)) := fun w' hg => (HRD1.out.below hg.belowF (by have := HHI.out; have := HW1.out; omega)).wide (Nat.zero_le _) (by have := HHI.out; have := HW1.out; have := hg.size; omega)
    have hid63 := HI63.out
    have hm63w := HM63.out
    apply wp_region_rely (fun _ => False) (RL [Is _, Is _, Is _, Is _, Is (txt (two m)), Is _, Is _, Is _, Is _, Is (txt (two id)), Is _, Is _, Is (txt (two pl)), Is _, Is _, Is _, Is _, Is _, Fresh w0.heap.size [ttl, proto], Is (txt [ttl, proto]), Is (txt fr), Is (txt fr)]) [false, false, false, false, false, true, false, false, false, false, false, false, false, false, false, false, false, false, false, false, false, false, false, false, false, false, false, false, false, false, false, false, false, false, false, false, false, false, false, false, false, false, false, true, true, true, true, true, true, true, true, true, true, true, true, true, true, true, true, true, true, true, true, true, false, false, false, false, false, false, false, false, false, false, false, false, false, false, false, false, false, false, false, false, false, false]
    · kernel_rfl
    · kernel_rfl
    · kernel_rfl
    · refine ⟨?_, ?_, ?_, ?_, ?_, ?_, ?_, ?_, ?_, ?_, ?_, ?_, ?_, ?_, ?_, ?_, ?_, ?_, ?_, ?_, ?_, ?_, trivial⟩
      · intro ev w' hC hc hf hb hr K hK
        have e1 : ev (.tmp 1) = _ := hb 1 (by kernel_rfl)
        have HK := Lib.hid hK
        have HC := Lib.hid hC
        clear hb hr hK hC hf
        unfold Run
        simp [execOp, Upon, go_sem, *]
        exact HK.out _ _ (.inl (Below.refl _ _)) rfl
      · intro ev w' hC hc hf hb hr K hK
        have e43 := hr 0 _ rfl (by kernel_rfl)
        change ev (.tmp 43) = _ at e43
        have HK := Lib.hid hK
        have HC := Lib.hid hC
        clear hb hr hK hC hf
        have c13 := KEY.out 13 _ H13.out w' HC.out
        unfold Run
        simp [execOp, Upon, go_sem, *]
        exact HK.out _ _ (.inl (Below.refl _ _)) rfl
      · intro ev w' hC hc hf hb hr K hK
        have e44 := hr 1 _ rfl (by kernel_rfl)
        change ev (.tmp 44) = _ at e44
        have HK := Lib.hid hK
        have HC := Lib.hid hC
        clear hb hr hK hC hf
        unfold Run
        rw [run_lenE _ 25 5 Try.underlying25 rfl e44]
        exact HK.out _ _ (.inl (Below.refl _ _)) rfl
      · intro ev w' hC hc hf hb hr K hK
        have e45 := hr 2 _ rfl (by kernel_rfl)
        change ev (.tmp 45) = _ at e45
        have HK := Lib.hid hK
        have HC := Lib.hid hC
        clear hb hr hK hC hf
        unfold Run
        simp [execOp, Upon, go_sem, *]
        exact HK.out _ _ (.inl (Below.refl _ _)) rfl
      · intro ev w' hC hc hf hb hr K hK
        have e46 := hr 3 _ rfl (by kernel_rfl)
        change ev (.tmp 46) = _ at e46
        have HK := Lib.hid hK
        have HC := Lib.hid hC
        clear hb hr hK hC
        unfold Run
        simp [execOp, Upon, go_sem, *]
        refine (refword_any m _ (by omega)).mono ?_
        rintro e w2 ⟨rfl, hb⟩
        exact ⟨_, rfl, HK.out _ _ (.inl hb) rfl⟩
      · intro ev w' hC hc hf hb hr K hK
        have e47 := hr 4 _ rfl (by kernel_rfl)
        change ev (.tmp 47) = _ at e47
        have HK := Lib.hid hK
        have HC := Lib.hid hC
        clear hb hr hK hC hf
        unfold Run
        simp [execOp, Upon, go_sem, *]
        exact HK.out _ _ (.inl (Below.refl _ _)) rfl
      · intro ev w' hC hc hf hb hr K hK
        have e1 : ev (.tmp 1) = _ := hb 1 (by kernel_rfl)
        have HK := Lib.hid hK
        have HC := Lib.hid hC
        clear hb hr hK hC hf
        unfold Run
        simp [execOp, Upon, go_sem, *]
        exact HK.out _ _ (.inl (Below.refl _ _)) rfl
      · intro ev w' hC hc hf hb hr K hK
        have e49 := hr 6 _ rfl (by kernel_rfl)
        change ev (.tmp 49) = _ at e49
        have HK := Lib.hid hK
        have HC := Lib.hid hC
        clear hb hr hK hC hf
        have c0 := KEY.out 0 _ H0.out w' HC.out
        unfold Run
        simp [execOp, Upon, go_sem, *]
        exact HK.out _ _ (.inl (Below.refl _ _)) rfl
      · intro ev w' hC hc hf hb hr K hK
        have e50 := hr 7 _ rfl (by kernel_rfl)
        change ev (.tmp 50) = _ at e50
        have HK := Lib.hid hK
        have HC := Lib.hid hC
        clear hb hr hK hC hf
        unfold Run
        simp [execOp, Upon, go_sem, *]
        exact HK.out _ _ (.inl (Below.refl _ _)) rfl
      · intro ev w' hC hc hf hb hr K hK
        have e51 := hr 8 _ rfl (by kernel_rfl)
        change ev (.tmp 51) = _ at e51
        have HK := Lib.hid hK
        have HC := Lib.hid hC
        clear hb hr hK hC
        unfold Run
        simp [execOp, Upon, go_sem, *]
        refine (refword_any id _ (by omega)).mono ?_
        rintro e w2 ⟨rfl, hb⟩
        exact ⟨_, rfl, HK.out _ _ (.inl hb) rfl⟩
      · intro ev w' hC hc hf hb hr K hK
        have e48 := hr 5 _ rfl (by kernel_rfl)
        have e52 := hr 9 _ rfl (by kernel_rfl)
        change ev (.tmp 48) = _ at e48
        change ev (.tmp 52) = _ at e52
        have HK := Lib.hid hK
        have HC := Lib.hid hC
        clear hb hr hK hC hf
        unfold Run
        simp [execOp, Upon, go_sem, *]
        exact HK.out _ _ (.inl (Below.refl _ _)) rfl
      · intro ev w' hC hc hf hb hr K hK
        have e4 : ev (.tmp 4) = _ := hb 4 (by kernel_rfl)
        have HK := Lib.hid hK
        have HC := Lib.hid hC
        clear hb hr hK hC hf
        unfold Run
        simp [execOp, Upon, go_sem, *]
        exact HK.out _ _ (.inl (Below.refl _ _)) rfl
      · intro ev w' hC hc hf hb hr K hK
        have e54 := hr 11 _ rfl (by kernel_rfl)
        change ev (.tmp 54) = _ at e54
        have HK := Lib.hid hK
        have HC := Lib.hid hC
        clear hb hr hK hC
        unfold Run
        simp [execOp, Upon, go_sem, *]
        refine (refword_any pl _ (by omega)).mono ?_
        rintro e w2 ⟨rfl, hb⟩
        exact ⟨_, rfl, HK.out _ _ (.inl hb) rfl⟩
      · intro ev w' hC hc hf hb hr K hK
        have e53 := hr 10 _ rfl (by kernel_rfl)
        have e55 := hr 12 _ rfl (by kernel_rfl)
        change ev (.tmp 53) = _ at e53
        change ev (.tmp 55) = _ at e55
        have HK := Lib.hid hK
        have HC := Lib.hid hC
        clear hb hr hK hC hf
        unfold Run
        simp [execOp, Upon, go_sem, *]
        exact HK.out _ _ (.inl (Below.refl _ _)) rfl
      · intro ev w' hC hc hf hb hr K hK
        have e1 : ev (.tmp 1) = _ := hb 1 (by kernel_rfl)
        have HK := Lib.hid hK
        have HC := Lib.hid hC
        clear hb hr hK hC hf
        unfold Run
        simp [execOp, Upon, go_sem, *]
        exact HK.out _ _ (.inl (Below.refl _ _)) rfl
      · intro ev w' hC hc hf hb hr K hK
        have e57 := hr 14 _ rfl (by kernel_rfl)
        change ev (.tmp 57) = _ at e57
        have HK := Lib.hid hK
        have HC := Lib.hid hC
        clear hb hr hK hC hf
        have c3 := KEY.out 3 _ H3.out w' HC.out
        unfold Run
        simp [execOp, Upon, go_sem, *]
        exact HK.out _ _ (.inl (Below.refl _ _)) rfl
      · intro ev w' hC hc hf hb hr K hK
        have e1 : ev (.tmp 1) = _ := hb 1 (by kernel_rfl)
        have HK := Lib.hid hK
        have HC := Lib.hid hC
        clear hb hr hK hC hf
        unfold Run
        simp [execOp, Upon, go_sem, *]
        exact HK.out _ _ (.inl (Below.refl _ _)) rfl
      · intro ev w' hC hc hf hb hr K hK
        have e59 := hr 16 _ rfl (by kernel_rfl)
        change ev (.tmp 59) = _ at e59
        have HK := Lib.hid hK
        have HC := Lib.hid hC
        clear hb hr hK hC hf
        have c4 := KEY.out 4 _ H4.out w' HC.out
        unfold Run
        simp [execOp, Upon, go_sem, *]
        exact HK.out _ _ (.inl (Below.refl _ _)) rfl
      · intro ev w' hC hc hf hb hr K hK
        have e58 := hr 15 _ rfl (by kernel_rfl)
        have e60 := hr 17 _ rfl (by kernel_rfl)
        change ev (.tmp 58) = _ at e58
        change ev (.tmp 60) = _ at e60
        have HK := Lib.hid hK
        have HC := Lib.hid hC
        clear hb hr hK hC hf
        unfold Run
        simp [execOp, Upon, go_sem, *]
        exact HK.out _ _ (.inl ((Below.refl _ _).alloc (Nat.le_refl _) _)) ⟨some ⟨w'.heap.size, 0, none⟩, 2, rfl, by rw [World.size_alloc]; exact (rd_new w' (cells [ttl, proto]) 5 (0, 0)).wide HC.out.size (Nat.le_refl _), (fun h => by cases h), Nat.le_refl _, (by unfold maxLen; simp)⟩
      · intro ev w' hC hc hf hb hr K hK
        have e61 := hr 18 _ rfl (by kernel_rfl)
        change (Fresh w0.heap.size [ttl, proto] : Pred) (ev (.tmp 61)) _ at e61
        have HK := Lib.hid hK
        have HC := Lib.hid hC
        clear hb hr hK hC hf
        obtain ⟨A61, c61, q61, r61, _⟩ := e61
        have kt := run_text (P := Try.prog) w' 25 9 5 c61 Try.underlying25 Try.underlying5 Try.underlying9 r61
        clear r61
        simp only [List.length_cons, List.length_nil, Nat.zero_add] at q61 kt
        unfold Run
        simp [execOp, Upon, go_sem, *]
        exact HK.out _ _ (.inl (Below.refl _ _)) rfl
      · intro ev w' hC hc hf hb hr K hK
        have e56 := hr 13 _ rfl (by kernel_rfl)
        have e62 := hr 19 _ rfl (by kernel_rfl)
        change ev (.tmp 56) = _ at e56
        change ev (.tmp 62) = _ at e62
        have HK := Lib.hid hK
        have HC := Lib.hid hC
        clear hb hr hK hC hf
        unfold Run
        simp [execOp, Upon, go_sem, *]
        exact HK.out _ _ (.inl (Below.refl _ _)) (by show _ = _; rw [← FR.out]; first | done | exact FRT.out)
      · intro ev w' hC hc hf hb hr K hK
        have e63 := hr 20 _ rfl (by kernel_rfl)
        change ev (.tmp 63) = _ at e63
        have HK := Lib.hid hK
        have HC := Lib.hid hC
        clear hb hr hK hC hf
        unfold Run
        simp [execOp, Upon, go_sem, *]
        exact HK.out _ _ (.inl (Below.refl _ _)) rfl
    · exact rl_mono ⟨is_mono _, is_mono _, is_mono _, is_mono _, is_mono _, is_mono _, is_mono _, is_mono _, is_mono _, is_mono _, is_mono _, is_mono _, is_mono _, is_mono _, is_mono _, is_mono _, is_mono _, is_mono _, fresh_mono _ _, is_mono _, is_mono _, is_mono _, trivial⟩
    intro us wr hG hH
    obtain ⟨-, -, -, -, -, -, -, -, -, -, -, -, -, -, -, -, -, -, -, -, -, h21, -⟩ := hH
    simp only [fillM]
    change us 5 = _ at h21
    rw [h21]
    clear h21
    generalize us 43 = v43
    generalize us 44 = v44
    generalize us 45 = v45
    generalize us 46 = v46
    generalize us 47 = v47
    generalize us 48 = v48
    generalize us 49 = v49
    generalize us 50 = v50
    generalize us 51 = v51
    generalize us 52 = v52
    generalize us 53 = v53
    generalize us 54 = v54
    generalize us 55 = v55
    generalize us 56 = v56
    generalize us 57 = v57
    generalize us 58 = v58
    generalize us 59 = v59
    generalize us 60 = v60
    generalize us 61 = v61
    generalize us 62 = v62
    generalize us 63 = v63
    clear hid63 hm63w
    have HB1' : Hid (Below w.heap.size w wr) := HB1.out.trans (hG.belowF.mono HB1.out.size)
    have HG1' := Lib.hid ((hG.block _ HW1.out (fun h => h)).trans HG1.out)
    have HRD1' := Lib.hid (HRD1.out.below hG.belowF (by have := HHI.out; have := HW1.out; omega))
    have HW1' : Hid (w.heap.size < wr.heap.size) := row_lt HG1'.out
    clear KEY RDG HRB HB1 HG1 HRD1 HW1 hG
    have HB1 := HB1'
    have HG1 := HG1'
    have HRD1 := HRD1'
    have HW1 := HW1'
    clear HB1' HG1' HRD1' HW1'
    go_wp2_with fail
    have KEY : Hid (∀ (k : Nat) u, cs[k]? = some u → ∀ w', Gro (fun _ => False) wr w' → w'.cell? ⟨w.heap.size, k, none⟩ = some u) := fun k u hu w' hg => by
      rw [cell_of_row _ _ _ _ _ _ ((hg.block _ HW1.out (fun h => h)).trans HG1.out)]
      exact hu
    have RDG : Hid (∀ (o : Nat) xs, (∀ (k : Nat) u, xs[k]? = some u → cs[o + k]? = some u) → ∀ w', Gro (fun _ => False) wr w' → Rd w' 0 w'.heap.size (some ⟨w.heap.size, o, none⟩) xs) := fun o xs h w' hg => by
      have hr := (hg.block _ HW1.out (fun h => h)).trans HG1.out
      exact (rd_mid hr h).wide (Nat.zero_le _) (row_lt hr)
    have HRB : Hid (∀ w', Gro (fun _ => False) wr w' → Rd w' 0 w'.heap.size A (cells data)) := fun w' hg => (HRD1.out.below hg.belowF (by have := HHI.out; have := HW1.out; omega)).wide (Nat.zero_le _) (by have := HHI.out; have := HW1.out; have := hg.size; omega)
    apply wp_region_rely (fun _ => False) (RL [Is _, Is (.agg #[.int .u8 (s0.toNat : Int), .int .u8 (s1.toNat : Int), .int .u8 (s2.toNat : Int), .int .u8 (s3.toNat : Int)]), Is (txt [s0, s1, s2, s3]), Is _, Is (.agg #[.int .u8 (d0.toNat : Int), .int .u8 (d1.toNat : Int), .int .u8 (d2.toNat : Int), .int .u8 (d3.toNat : Int)]), Is (txt [d0, d1, d2, d3]), Is (txt bk), Is (txt bk)]) [false, false, false, false, false, false, true, false, false, false, false, false, false, false, false, false, false, false, false, false, false, false, false, false, false, false, false, false, false, false, false, false, false, false, false, false, false, false, false, false, false, false, false, false, false, false, false, false, false, false, false, false, false, false, false, false, false, false, false, false, false, false, false, false, true, true, true, true, true, true, true, false, false, false, false, false, false, false, false, false, false, false, false, false, false, false]
    · kernel_rfl
    · kernel_rfl
    · kernel_rfl
    · refine ⟨?_, ?_, ?_, ?_, ?_, ?_, ?_, ?_, trivial⟩
      · intro ev w' hC hc hf hb hr K hK
        have e1 : ev (.tmp 1) = _ := hb 1 (by kernel_rfl)
        have HK := Lib.hid hK
        have HC := Lib.hid hC
        clear hb hr hK hC hf
        unfold Run
        simp [execOp, Upon, go_sem, *]
        exact HK.out _ _ (.inl (Below.refl _ _)) rfl
      · intro ev w' hC hc hf hb hr K hK
        have e64 := hr 0 _ rfl (by kernel_rfl)
        change ev (.tmp 64) = _ at e64
        have HK := Lib.hid hK
        have HC := Lib.hid hC
        clear hb hr hK hC hf
        have hl := run_loadVar_at (P := Try.prog) w' ⟨w.heap.size, 5, none⟩ 24 (cells [s0, s1, s2, s3]) _ (loads_of (RDG.out 5 _ HSRC.out w' HC.out)) Try.underlying24 rfl (by kernel_rfl)
        unfold Run
        rw [run_loadE 24 _ rfl e64 hl]
        exact HK.out _ _ (.inl (Below.refl _ _)) rfl
      · intro ev w' hC hc hf hb hr K hK
        have e65 := hr 1 _ rfl (by kernel_rfl)
        change ev (.tmp 65) = _ at e65
        have HK := Lib.hid hK
        have HC := Lib.hid hC
        clear hb hr hK hC
        unfold Run
        simp [execOp, Upon, go_sem, *]
        refine (host_lit s0 s1 s2 s3 _).mono ?_
        rintro e w2 ⟨rfl, hb⟩
        exact ⟨_, rfl, HK.out _ _ (.inl hb) rfl⟩
      · intro ev w' hC hc hf hb hr K hK
        have e1 : ev (.tmp 1) = _ := hb 1 (by kernel_rfl)
        have HK := Lib.hid hK
        have HC := Lib.hid hC
        clear hb hr hK hC hf
        unfold Run
        simp [execOp, Upon, go_sem, *]
        exact HK.out _ _ (.inl (Below.refl _ _)) rfl
      · intro ev w' hC hc hf hb hr K hK
        have e67 := hr 3 _ rfl (by kernel_rfl)
        change ev (.tmp 67) = _ at e67
        have HK := Lib.hid hK
        have HC := Lib.hid hC
        clear hb hr hK hC hf
        have hl := run_loadVar_at (P := Try.prog) w' ⟨w.heap.size, 9, none⟩ 24 (cells [d0, d1, d2, d3]) _ (loads_of (RDG.out 9 _ HDST.out w' HC.out)) Try.underlying24 rfl (by kernel_rfl)
        unfold Run
        rw [run_loadE 24 _ rfl e67 hl]
        exact HK.out _ _ (.inl (Below.refl _ _)) rfl
      · intro ev w' hC hc hf hb hr K hK
        have e68 := hr 4 _ rfl (by kernel_rfl)
        change ev (.tmp 68) = _ at e68
        have HK := Lib.hid hK
        have HC := Lib.hid hC
        clear hb hr hK hC
        unfold Run
        simp [execOp, Upon, go_sem, *]
        refine (host_lit d0 d1 d2 d3 _).mono ?_
        rintro e w2 ⟨rfl, hb⟩
        exact ⟨_, rfl, HK.out _ _ (.inl hb) rfl⟩
      · intro ev w' hC hc hf hb hr K hK
        have e66 := hr 2 _ rfl (by kernel_rfl)
        have e69 := hr 5 _ rfl (by kernel_rfl)
        change ev (.tmp 66) = _ at e66
        change ev (.tmp 69) = _ at e69
        have HK := Lib.hid hK
        have HC := Lib.hid hC
        clear hb hr hK hC hf
        unfold Run
        simp [execOp, Upon, go_sem, *]
        exact HK.out _ _ (.inl (Below.refl _ _)) (by show _ = _; rw [← BK.out]; first | done | exact BKT.out)
      · intro ev w' hC hc hf hb hr K hK
        have e70 := hr 6 _ rfl (by kernel_rfl)
        change ev (.tmp 70) = _ at e70
        have HK := Lib.hid hK
        have HC := Lib.hid hC
        clear hb hr hK hC hf
        unfold Run
        simp [execOp, Upon, go_sem, *]
        exact HK.out _ _ (.inl (Below.refl _ _)) rfl
    · exact rl_mono ⟨is_mono _, is_mono _, is_mono _, is_mono _, is_mono _, is_mono _, is_mono _, is_mono _, trivial⟩
    intro us2 ws hG hH
    obtain ⟨-, -, -, -, -, -, -, h7, -⟩ := hH
    simp only [fillM]
    change us2 6 = _ at h7
    rw [h7]
    clear h7
    generalize us2 64 = v64
    generalize us2 65 = v65
    generalize us2 66 = v66
    generalize us2 67 = v67
    generalize us2 68 = v68
    generalize us2 69 = v69
    generalize us2 70 = v70
    have HB1' : Hid (Below w.heap.size w ws) := HB1.out.trans (hG.belowF.mono HB1.out.size)
    have HG1' := Lib.hid ((hG.block _ HW1.out (fun h => h)).trans HG1.out)
    have HRD1' := Lib.hid (HRD1.out.below hG.belowF (by have := HHI.out; have := HW1.out; omega))
    have HW1' : Hid (w.heap.size < ws.heap.size) := row_lt HG1'.out
    clear KEY RDG HRB HB1 HG1 HRD1 HW1 hG
    have HB1 := HB1'
    have HG1 := HG1'
    have HRD1 := HRD1'
    have HW1 := HW1'
    clear HB1' HG1' HRD1' HW1'
    go_wp2_with fail
    have KEY : Hid (∀ (k : Nat) u, cs[k]? = some u → ∀ w', Gro (fun _ => False) ws w' → w'.cell? ⟨w.heap.size, k, none⟩ = some u) := fun k u hu w' hg => by
      rw [cell_of_row _ _ _ _ _ _ ((hg.block _ HW1.out (fun h => h)).trans HG1.out)]
      exact hu
    have RDG : Hid (∀ (o : Nat) xs, (∀ (k : Nat) u, xs[k]? = some u → cs[o + k]? = some u) → ∀ w', Gro (fun _ => False) ws w' → Rd w' 0 w'.heap.size (some ⟨w.heap.size, o, none⟩) xs) := fun o xs h w' hg => by
      have hr := (hg.block _ HW1.out (fun h => h)).trans HG1.out
      exact (rd_mid hr h).wide (Nat.zero_le _) (row_lt hr)
    have HRB : Hid (∀ w', Gro (fun _ => False) ws w' → Rd w' 0 w'.heap.size A (cells data)) := fun w' hg => (HRD1.out.below hg.belowF (by have := HHI.out; have := HW1.out; omega)).wide (Nat.zero_le _) (by have := HHI.out; have := HW1.out; have := hg.size; omega)
    have hS63 := HS63.out
    have hfl : fr.length = 10 := by rw [← FR.out]; rfl
    have hbl : bk.length = 8 := by rw [← BK.out]; rfl
    have hts : (two S).length = 2 := rfl
    have hnl := HN.out
    have hnb : ¬ (9223372036854775807 < 20 + n) := by omega
    have hnc : 20 + n ≤ 9223372036854775807 := by omega
    apply wp_region_rely (fun _ => False) (RL [Is _, Is _, Is _, Is _, Is (txt ba), Is (.int .u16 (S : Int)), Is _, Is (txt (two S)), Is _, Is _, Is _, Is _, Is _, Is _, Is (txt bs), Is (txt bs), Is (.int .i64 0)]) [false, false, true, true, false, false, false, false, false, false, false, false, false, false, false, false, false, false, false, false, false, false, false, false, false, false, false, false, false, false, false, false, false, false, false, false, false, false, false, false, false, false, false, false, false, false, false, false, false, false, false, false, false, false, false, false, false, false, false, false, false, false, false, false, false, false, false, false, false, false, false, true, true, true, true, true, true, true, true, true, true, true, true, true, true, true]
    · kernel_rfl
    · kernel_rfl
    · kernel_rfl
    · refine ⟨?_, ?_, ?_, ?_, ?_, ?_, ?_, ?_, ?_, ?_, ?_, ?_, ?_, ?_, ?_, ?_, ?_, trivial⟩
      · intro ev w' hC hc hf hb hr K hK
        have e5 : ev (.tmp 5) = _ := hb 5 (by kernel_rfl)
        have HK := Lib.hid hK
        have HC := Lib.hid hC
        clear hb hr hK hC hf
        unfold Run
        simp [execOp, Upon, go_sem, *]
        exact HK.out _ _ (.inl (Below.refl _ _)) rfl
      · intro ev w' hC hc hf hb hr K hK
        have e5 : ev (.tmp 5) = _ := hb 5 (by kernel_rfl)
        have HK := Lib.hid hK
        have HC := Lib.hid hC
        clear hb hr hK hC hf
        unfold Run
        simp [execOp, Upon, go_sem, *]
        exact HK.out _ _ (.inl (Below.refl _ _)) rfl
      · intro ev w' hC hc hf hb hr K hK
        have e72 := hr 1 _ rfl (by kernel_rfl)
        change ev (.tmp 72) = _ at e72
        have HK := Lib.hid hK
        have HC := Lib.hid hC
        clear hb hr hK hC hf
        unfold Run
        simp [execOp, Upon, go_sem, *]
        exact HK.out _ _ (.inl (Below.refl _ _)) rfl
      · intro ev w' hC hc hf hb hr K hK
        have e6 : ev (.tmp 6) = _ := hb 6 (by kernel_rfl)
        have HK := Lib.hid hK
        have HC := Lib.hid hC
        clear hb hr hK hC hf
        unfold Run
        simp [execOp, Upon, go_sem, *]
        exact HK.out _ _ (.inl (Below.refl _ _)) rfl
      · intro ev w' hC hc hf hb hr K hK
        have e73 := hr 2 _ rfl (by kernel_rfl)
        have e74 := hr 3 _ rfl (by kernel_rfl)
        change ev (.tmp 73) = _ at e73
        change ev (.tmp 74) = _ at e74
        have HK := Lib.hid hK
        have HC := Lib.hid hC
        clear hb hr hK hC hf
        unfold Run
        simp [execOp, Upon, go_sem, *]
        exact HK.out _ _ (.inl (Below.refl _ _)) (by show _ = _; rw [← BA.out]; first | done | exact BAT.out)
      · intro ev w' hC hc hf hb hr K hK
        have e75 := hr 4 _ rfl (by kernel_rfl)
        change ev (.tmp 75) = _ at e75
        have HK := Lib.hid hK
        have HC := Lib.hid hC
        clear hb hr hK hC
        unfold Run
        simp [execOp, Upon, go_sem, *]
        refine (refsum_any ba _ BAL.out).mono ?_
        rintro e w2 ⟨rfl, rfl⟩
        exact ⟨_, rfl, HK.out _ _ (.inl (Below.refl _ _)) (by show _ = _; rw [HSV.out])⟩
      · intro ev w' hC hc hf hb hr K hK
        have e76 := hr 5 _ rfl (by kernel_rfl)
        change ev (.tmp 76) = _ at e76
        have HK := Lib.hid hK
        have HC := Lib.hid hC
        clear hb hr hK hC hf
        unfold Run
        simp [execOp, Upon, go_sem, *]
        exact HK.out _ _ (.inl (Below.refl _ _)) rfl
      · intro ev w' hC hc hf hb hr K hK
        have e77 := hr 6 _ rfl (by kernel_rfl)
        change ev (.tmp 77) = _ at e77
        have HK := Lib.hid hK
        have HC := Lib.hid hC
        clear hb hr hK hC
        unfold Run
        simp [execOp, Upon, go_sem, *]
        refine (refword_any S _ (by omega)).mono ?_
        rintro e w2 ⟨rfl, hb⟩
        exact ⟨_, rfl, HK.out _ _ (.inl hb) rfl⟩
      · intro ev w' hC hc hf hb hr K hK
        have e71 := hr 0 _ rfl (by kernel_rfl)
        have e78 := hr 7 _ rfl (by kernel_rfl)
        change ev (.tmp 71) = _ at e71
        change ev (.tmp 78) = _ at e78
        have HK := Lib.hid hK
        have HC := Lib.hid hC
        clear hb hr hK hC hf
        unfold Run
        simp [execOp, Upon, go_sem, *]
        exact HK.out _ _ (.inl (Below.refl _ _)) rfl
      · intro ev w' hC hc hf hb hr K hK
        have e6 : ev (.tmp 6) = _ := hb 6 (by kernel_rfl)
        have HK := Lib.hid hK
        have HC := Lib.hid hC
        clear hb hr hK hC hf
        unfold Run
        simp [execOp, Upon, go_sem, *]
        exact HK.out _ _ (.inl (Below.refl _ _)) rfl
      · intro ev w' hC hc hf hb hr K hK
        have e79 := hr 8 _ rfl (by kernel_rfl)
        have e80 := hr 9 _ rfl (by kernel_rfl)
        change ev (.tmp 79) = _ at e79
        change ev (.tmp 80) = _ at e80
        have HK := Lib.hid hK
        have HC := Lib.hid hC
        clear hb hr hK hC hf
        unfold Run
        simp [execOp, Upon, go_sem, *]
        exact HK.out _ _ (.inl (Below.refl _ _)) rfl
      · intro ev w' hC hc hf hb hr K hK
        have e1 : ev (.tmp 1) = _ := hb 1 (by kernel_rfl)
        have HK := Lib.hid hK
        have HC := Lib.hid hC
        clear hb hr hK hC hf
        unfold Run
        simp [execOp, Upon, go_sem, *]
        exact HK.out _ _ (.inl (Below.refl _ _)) rfl
      · intro ev w' hC hc hf hb hr K hK
        have e82 := hr 11 _ rfl (by kernel_rfl)
        change ev (.tmp 82) = _ at e82
        have HK := Lib.hid hK
        have HC := Lib.hid hC
        clear hb hr hK hC hf
        have c13 := KEY.out 13 _ H13.out w' HC.out
        unfold Run
        simp [execOp, Upon, go_sem, *]
        exact HK.out _ _ (.inl (Below.refl _ _)) rfl
      · intro ev w' hC hc hf hb hr K hK
        have e83 := hr 12 _ rfl (by kernel_rfl)
        change ev (.tmp 83) = _ at e83
        have HK := Lib.hid hK
        have HC := Lib.hid hC
        clear hb hr hK hC hf
        have kt := run_text (P := Try.prog) w' 25 9 5 c Try.underlying25 Try.underlying5 Try.underlying9 (HRB.out w' HC.out)
        rw [HN.out] at kt
        unfold Run
        simp [execOp, Upon, go_sem, *]
        exact HK.out _ _ (.inl (Below.refl _ _)) rfl
      · intro ev w' hC hc hf hb hr K hK
        have e81 := hr 10 _ rfl (by kernel_rfl)
        have e84 := hr 13 _ rfl (by kernel_rfl)
        change ev (.tmp 81) = _ at e81
        change ev (.tmp 84) = _ at e84
        have HK := Lib.hid hK
        have HC := Lib.hid hC
        clear hb hr hK hC hf
        unfold Run
        simp [execOp, Upon, go_sem, *]
        exact HK.out _ _ (.inl (Below.refl _ _)) (by show _ = _; rw [HBS.out]; first | done | exact BST.out)
      · intro ev w' hC hc hf hb hr K hK
        have e85 := hr 14 _ rfl (by kernel_rfl)
        change ev (.tmp 85) = _ at e85
        have HK := Lib.hid hK
        have HC := Lib.hid hC
        clear hb hr hK hC hf
        unfold Run
        simp [execOp, Upon, go_sem, *]
        exact HK.out _ _ (.inl (Below.refl _ _)) rfl
      · intro ev w' hC hc hf hb hr K hK
        have HK := Lib.hid hK
        have HC := Lib.hid hC
        clear hb hr hK hC hf
        unfold Run
        simp [execOp, Upon, go_sem, *]
        exact HK.out _ _ (.inl (Below.refl _ _)) rfl
    · exact rl_mono ⟨is_mono _, is_mono _, is_mono _, is_mono _, is_mono _, is_mono _, is_mono _, is_mono _, is_mono _, is_mono _, is_mono _, is_mono _, is_mono _, is_mono _, is_mono _, is_mono _, is_mono _, trivial⟩
    intro us3 wt hG hH
    obtain ⟨-, -, -, -, -, -, -, -, -, -, -, -, -, -, -, h15, h16, -⟩ := hH
    simp only [fillM]
    change us3 2 = _ at h15
    rw [h15]
    clear h15
    change us3 3 = _ at h16
    rw [h16]
    clear h16
    generalize us3 71 = v71
    generalize us3 72 = v72
    generalize us3 73 = v73
    generalize us3 74 = v74
    generalize us3 75 = v75
    generalize us3 76 = v76
    generalize us3 77 = v77
    generalize us3 78 = v78
    generalize us3 79 = v79
    generalize us3 80 = v80
    generalize us3 81 = v81
    generalize us3 82 = v82
    generalize us3 83 = v83
    generalize us3 84 = v84
    generalize us3 85 = v85
    have HBT : Hid (Below w.heap.size w wt) := HB1.out.trans (hG.belowF.mono HB1.out.size)
    clear hS63 hG hfl hbl hts hnl hnb hnc
    go_wp2
    go_ret2
    exact ⟨rfl, HBT.out⟩

/-- caravelref06.Build, all of it -/
theorem refbuild_any (cs : Array Value) (p : Pk) (w : World) (lo hi : Nat) (h : PkV w lo hi cs p) (hhi : hi ≤ w.heap.size) :
    Calls Try.prog 10 #[.agg cs] w fun e w' => e = .returned (.tuple #[txt (buildP p).1, .int .i64 (buildP p).2]) ∧ Below w.heap.size w w' := by
  obtain ⟨A, c, he, hok, hoff, hrd, hlc, hcm, hA⟩ := h
  unfold maxLen at hcm
  have h1 : cs[1]? = some (.bool p.more) := by subst he; rfl
  have h2 : cs[2]? = some (.int .i64 p.off) := by subst he; rfl
  have h13 : cs[13]? = some (.slice A p.data.length c) := by subst he; rw [List.getElem?_toArray]; exact pkC_13 hok _
  by_cases hp : placedB p = true
  · have hpp := (placed_iff p).1 hp
    by_cases hl : 180 < p.data.length
    · have e1 : buildP p = ([], 4) := by unfold buildP; rw [if_pos hp, if_pos hl]
      rw [e1]
      exact refbuild_long cs p.more p.off A p.data.length c w h1 h2 h13 (by omega) hpp hl
    · have e1 : buildP p = (p.bytes, 0) := by unfold buildP; rw [if_pos hp, if_neg hl]
      rw [e1]
      have hs := pkC_src p (.slice A p.data.length c)
      have hd := pkC_dst hok (.slice A p.data.length c)
      obtain ⟨s0, s1, s2, s3, hsv⟩ := four_of p.src hok.2.1
      obtain ⟨d0, d1, d2, d3, hdv⟩ := four_of p.dst hok.2.2
      rw [hsv] at hs
      rw [hdv] at hd
      refine refbuild_fits cs p.id p.more p.off p.ttl p.proto s0 s1 s2 s3 d0 d1 d2 d3 p.data A p.data.length c lo hi (20 + p.data.length) (p.off.toNat / 8) (placeN p) (65535 - sumL (bare p)) w (front p) ([s0, s1, s2, s3] ++ [d0, d1, d2, d3]) (bare p) p.bytes
        (by subst he; rfl) h1 h2 (by subst he; rfl) (by subst he; rfl) h13 (fun k u hu => by subst he; rw [List.getElem?_toArray]; exact hs k u hu) (fun k u hu => by subst he; rw [List.getElem?_toArray]; exact hd k u hu)
        hpp (by omega) hok.1 rfl (by omega) rfl hrd hhi rfl rfl rfl ?_ rfl ?_
      · unfold bare
        rw [hsv, hdv, List.append_assoc (front p ++ [0, 0])]
      · unfold Pk.bytes
        rw [hsv, hdv, List.append_assoc (front p ++ two _)]
  · have e1 : buildP p = ([], 1) := by unfold buildP; rw [if_neg hp]
    rw [e1]
    exact refbuild_arg cs p.more p.off A p.data.length c w h1 h2 h13 (by omega) hoff fun h => hp ((placed_iff p).2 h)
end Go.Proofs.Ytbmjjhflaocgiaa
