/-
  dgram's byte texts: ip4.pair, bytes.Clone, the document's Word, Num, Host, ip4.Pseudo and the document's Pseudo: their answers, for all that can be read.
-/
import Derived.Test.YtjgdmkmfnkaoaaaPk
import Derived.Test.YtjgdmkmfnkaoaaaRelyQ
import Derived.Test.YtjgdmkmfnkaoaaaConcat
import Derived.Test.YtjgdmkmfnkaoaaaFoldS
import Derived.Test.YtjgdmkmfnkaoaaaRefS
import Derived.Test.YtjgdmkmfnkaoaaaSplit
import Derived.StillTailTactics
import Derived.Laws.BitsAllLaws
import Derived.IntWalk
import Derived.Laws.Rows
import Derived.Laws.ResultCell
import Derived.Laws.Tables
import Derived.Laws.CopyOwn
import Derived.Laws.CopyRow
import Derived.Deep.RegionLaw
import Derived.Deep.MidRow
import Derived.Lib.Strings
namespace Go.Proofs.Ytjgdmkmfnkaoaaa
open Go.RowKit


/-- bytes in a slice of the call's own, from block B on -/
def Fresh (B : Nat) (l : List UInt8) : Pred := fun v w => ∃ A c, v = .slice A l.length c ∧ Rd w B w.heap.size A (cells l) ∧ (A = none → c = 0) ∧ l.length ≤ c ∧ c ≤ maxLen
/-- what a function leaves that hands back new bytes -/
def FreshPost (w : World) (l : List UInt8) (e : Ending) (w' : World) : Prop := ∃ v, e = .returned v ∧ Fresh w.heap.size l v w' ∧ Below w.heap.size w w'
theorem Fresh.wide {B B' : Nat} {l : List UInt8} {v : Value} {w : World} (h : Fresh B l v w) (hB : B' ≤ B) : Fresh B' l v w := by
  obtain ⟨A, c, h1, h2, h3⟩ := h
  exact ⟨A, c, h1, h2.wide hB (Nat.le_refl _), h3⟩
theorem Fresh.grow {B : Nat} {l : List UInt8} {v : Value} {w w' : World} (h : Fresh B l v w) (hb : Below w.heap.size w w') : Fresh B l v w' := by
  obtain ⟨A, c, h1, h2, h3⟩ := h
  exact ⟨A, c, h1, (h2.below hb (Nat.le_refl _)).wide (Nat.le_refl _) hb.size, h3⟩
theorem byte_hi (n : Nat) : (n : Int) / 256 % 256 = ((UInt8.ofNat (n / 256)).toNat : Int) := by rw [u8_of]; omega
theorem byte_lo (n : Nat) : (n : Int) % 256 = ((UInt8.ofNat n).toNat : Int) := by rw [u8_of]; omega
theorem small_hi (n : Nat) (h : n < 65536) : (n : Int) / 256 = ((UInt8.ofNat (n / 256)).toNat : Int) := by rw [u8_of]; omega
theorem pair_any (n : Nat) (w : World) : Calls Try.prog 48 #[.int .i64 n] w (FreshPost w (two n)) := by
  have h1 := byte_hi n
  have h2 := byte_lo n
  have HT : Hid (two n = [UInt8.ofNat (n / 256), UInt8.ofNat n]) := rfl
  generalize UInt8.ofNat (n / 256) = a at h1 HT
  generalize UInt8.ofNat n = b at h2 HT
  go_enter Try.func48, Try.ntmps48
  go_wp2
  go_ret
  exact ⟨_, rfl, ⟨some ⟨w.heap.size, 0, none⟩, 2, by rw [HT.out]; rfl, by rw [HT.out, World.size_alloc]; exact rd_new w (cells [a, b]) 5 (0, 0), (fun h => by cases h), (by rw [HT.out]; exact Nat.le_refl _), (by unfold maxLen; omega)⟩, (Below.refl _ _).alloc (Nat.le_refl _) _⟩
theorem wrap_num (x y : UInt8) : IntKind.i64.wrap (IntKind.i64.wrap (IntKind.i64.wrap (x.toNat : Int) * 256) + IntKind.i64.wrap (y.toNat : Int)) = ((256 * x.toNat + y.toNat : Nat) : Int) := by
  have := x.toNat_lt
  have := y.toNat_lt
  rw [IntWalk.i64_in (x.toNat : Int) ⟨by omega, by omega⟩, IntWalk.i64_in (y.toNat : Int) ⟨by omega, by omega⟩, IntWalk.i64_in ((x.toNat : Int) * 256) ⟨by omega, by omega⟩, IntWalk.i64_in _ ⟨by omega, by omega⟩]
  omega
set_option maxHeartbeats 400000 in
theorem num_any (l : List UInt8) (k : Nat) (w : World) (hk : k + 1 < l.length) (hm : l.length ≤ maxLen) :
    Calls Try.prog 43 #[txt l, .int .i64 k] w fun e w' => e = .returned (.int .i64 (numAt l k : Nat)) ∧ Below w.heap.size w w' := by
  unfold maxLen at hm
  have i0 : (0 : Int) ≤ (k : Int) := by omega
  have i1 : (k : Int) < (l.length : Int) := by omega
  have i2 : (0 : Int) ≤ (k : Int) + 1 := by omega
  have i3 : (k : Int) + 1 < (l.length : Int) := by omega
  have i4 : ((k : Int) + 1).toNat = k + 1 := by omega
  have i5 : k < l.length := by omega
  have e1 : IntKind.i64.wrap ((k : Int) + 1) = (k : Int) + 1 := IntWalk.i64_in _ ⟨by omega, by omega⟩
  obtain ⟨x, hx⟩ : ∃ x, l[k] = x := ⟨_, rfl⟩
  obtain ⟨y, hy⟩ : ∃ y, l[k + 1] = y := ⟨_, rfl⟩
  have HN : Hid (numAt l k = 256 * x.toNat + y.toNat) := by
    show _ = _
    unfold numAt
    simp [List.getD_eq_getElem?_getD, i5, hk, hx, hy]
  have hx2 : (⟨l.toArray⟩ : ByteArray)[k]'(by show k < l.length; exact i5) = x := hx
  have hy2 : (⟨l.toArray⟩ : ByteArray)[k + 1]'(by show k + 1 < l.length; exact hk) = y := hy
  clear hx hy
  go_enter Try.func43, Try.ntmps43
  go_wp2_with fail
  apply wp_region_rely (fun _ => False) (RL [Is _, Is _, Is _, Is _, Is _, Is _, Is _, Is _, Is _, Is _, Is _, Is _]) [false, false, false, false, true, true, true, true, true, true, true, true, true, true, true, true]
  · kernel_rfl
  · kernel_rfl
  · kernel_rfl
  · refine ⟨?_, ?_, ?_, ?_, ?_, ?_, ?_, ?_, ?_, ?_, ?_, ?_, trivial⟩
    · intro ev w' hC hc hf hb hr K hK
      have e0 : ev (.tmp 0) = _ := hb 0 (by kernel_rfl)
      have HK := Lib.hid hK
      have HC := Lib.hid hC
      clear hb hr hK hf hC
      unfold Run
      simp [execOp, Upon, go_sem, *]
      exact HK.out _ _ (.inl (Below.refl _ _)) rfl
    · intro ev w' hC hc hf hb hr K hK
      have e1 : ev (.tmp 1) = _ := hb 1 (by kernel_rfl)
      have HK := Lib.hid hK
      have HC := Lib.hid hC
      clear hb hr hK hf hC
      unfold Run
      simp [execOp, Upon, go_sem, *]
      exact HK.out _ _ (.inl (Below.refl _ _)) rfl
    · intro ev w' hC hc hf hb hr K hK
      have e5 := hr 0 _ rfl (by kernel_rfl)
      have e6 := hr 1 _ rfl (by kernel_rfl)
      change ev (.tmp 5) = _ at e5
      change ev (.tmp 6) = _ at e6
      have HK := Lib.hid hK
      have HC := Lib.hid hC
      clear hb hr hK hf hC
      unfold Run
      simp [execOp, Upon, go_sem, *]
      exact HK.out _ _ (.inl (Below.refl _ _)) rfl
    · intro ev w' hC hc hf hb hr K hK
      have e7 := hr 2 _ rfl (by kernel_rfl)
      change ev (.tmp 7) = _ at e7
      have HK := Lib.hid hK
      have HC := Lib.hid hC
      clear hb hr hK hf hC
      unfold Run
      simp [execOp, Upon, go_sem, *]
      exact HK.out _ _ (.inl (Below.refl _ _)) rfl
    · intro ev w' hC hc hf hb hr K hK
      have e8 := hr 3 _ rfl (by kernel_rfl)
      change ev (.tmp 8) = _ at e8
      have HK := Lib.hid hK
      have HC := Lib.hid hC
      clear hb hr hK hf hC
      unfold Run
      simp [execOp, Upon, go_sem, *]
      exact HK.out _ _ (.inl (Below.refl _ _)) rfl
    · intro ev w' hC hc hf hb hr K hK
      have e0 : ev (.tmp 0) = _ := hb 0 (by kernel_rfl)
      have HK := Lib.hid hK
      have HC := Lib.hid hC
      clear hb hr hK hf hC
      unfold Run
      simp [execOp, Upon, go_sem, *]
      exact HK.out _ _ (.inl (Below.refl _ _)) rfl
    · intro ev w' hC hc hf hb hr K hK
      have e1 : ev (.tmp 1) = _ := hb 1 (by kernel_rfl)
      have HK := Lib.hid hK
      have HC := Lib.hid hC
      clear hb hr hK hf hC
      unfold Run
      simp [execOp, Upon, go_sem, *]
      exact HK.out _ _ (.inl (Below.refl _ _)) rfl
    · intro ev w' hC hc hf hb hr K hK
      have e11 := hr 6 _ rfl (by kernel_rfl)
      change ev (.tmp 11) = _ at e11
      have HK := Lib.hid hK
      have HC := Lib.hid hC
      clear hb hr hK hf hC
      unfold Run
      simp [execOp, Upon, go_sem, *]
      exact HK.out _ _ (.inl (Below.refl _ _)) rfl
    · intro ev w' hC hc hf hb hr K hK
      have e10 := hr 5 _ rfl (by kernel_rfl)
      have e12 := hr 7 _ rfl (by kernel_rfl)
      change ev (.tmp 10) = _ at e10
      change ev (.tmp 12) = _ at e12
      have HK := Lib.hid hK
      have HC := Lib.hid hC
      clear hb hr hK hf hC
      unfold Run
      simp [execOp, Upon, go_sem, *]
      exact HK.out _ _ (.inl (Below.refl _ _)) rfl
    · intro ev w' hC hc hf hb hr K hK
      have e13 := hr 8 _ rfl (by kernel_rfl)
      change ev (.tmp 13) = _ at e13
      have HK := Lib.hid hK
      have HC := Lib.hid hC
      clear hb hr hK hf hC
      unfold Run
      simp [execOp, Upon, go_sem, *]
      exact HK.out _ _ (.inl (Below.refl _ _)) rfl
    · intro ev w' hC hc hf hb hr K hK
      have e9 := hr 4 _ rfl (by kernel_rfl)
      have e14 := hr 9 _ rfl (by kernel_rfl)
      change ev (.tmp 9) = _ at e9
      change ev (.tmp 14) = _ at e14
      have HK := Lib.hid hK
      have HC := Lib.hid hC
      clear hb hr hK hf hC
      unfold Run
      simp [execOp, Upon, go_sem, *]
      exact HK.out _ _ (.inl (Below.refl _ _)) rfl
    · intro ev w' hC hc hf hb hr K hK
      have e15 := hr 10 _ rfl (by kernel_rfl)
      change ev (.tmp 15) = _ at e15
      have HK := Lib.hid hK
      have HC := Lib.hid hC
      clear hb hr hK hf hC
      unfold Run
      simp [execOp, Upon, go_sem, *]
      exact HK.out _ _ (.inl (Below.refl _ _)) rfl
  · exact rl_mono ⟨is_mono _, is_mono _, is_mono _, is_mono _, is_mono _, is_mono _, is_mono _, is_mono _, is_mono _, is_mono _, is_mono _, is_mono _, trivial⟩
  intro us wr hG hH
  obtain ⟨-, -, -, -, -, -, -, -, -, -, -, h11, -⟩ := hH
  simp only [fillM]
  change us 4 = _ at h11
  rw [h11]
  clear h11
  generalize us 5 = v5
  generalize us 6 = v6
  generalize us 7 = v7
  generalize us 8 = v8
  generalize us 9 = v9
  generalize us 10 = v10
  generalize us 11 = v11
  generalize us 12 = v12
  generalize us 13 = v13
  generalize us 14 = v14
  generalize us 15 = v15
  clear e1 i0 i1 i2 i3 i4 hx2 hy2
  go_wp2
  go_ret
  exact ⟨by rw [HN.out, ← wrap_num]; rfl, hG.belowF⟩
/-- a piece of a block as a slice's cells -/
theorem rd_mid2 {w : World} {b : Nat} {cs : Array Value} {t : TypeId} {fr : Nat × Nat} {xs : List Value} (hg : w.heap[b]? = some (.cells cs t fr)) (h : ∀ (k : Nat) u, xs[k]? = some u → cs[k]? = some u) :
    Rd w b (b + 1) (some ⟨b, 0, none⟩) xs := by
  intro k u hu
  refine ⟨_, rfl, Nat.le_refl _, Nat.lt_succ_self _, ?_⟩
  have e : ((⟨b, 0, none⟩ : Addr).add k) = ⟨b, k, none⟩ := by
    unfold Addr.add
    by_cases hk : k = 0 <;> simp [hk]
  rw [e, cell_of_row _ _ _ cs t fr hg]
  exact h k u hu
theorem run_two (w : World) (g : Nat) (a b : UInt8) (h : w.heap[g]? = some (.cells #[.int .u8 (a.toNat : Int), .int .u8 (b.toNat : Int)] 5 (0, 0))) : (convert 24 9 (.slice (some ⟨g, 0, none⟩) 2 2)).run Try.prog w = .ok (.string ⟨#[a, b]⟩) w :=
  run_text (P := Try.prog) (l := [a, b]) _ 24 9 5 2 Try.underlying24 Try.underlying5 Try.underlying9 (rd_mid2 h (fun k u hu => by simpa [cells] using hu))
theorem run_four (w : World) (x0 x1 x2 x3 : UInt8) : (convert 24 9 (.slice (some ⟨w.heap.size, 0, none⟩) 4 4)).run Try.prog (w.alloc (.cells #[.int .u8 (x0.toNat : Int), .int .u8 (x1.toNat : Int), .int .u8 (x2.toNat : Int), .int .u8 (x3.toNat : Int)] 5)) = .ok (.string ⟨#[x0, x1, x2, x3]⟩) (w.alloc (.cells #[.int .u8 (x0.toNat : Int), .int .u8 (x1.toNat : Int), .int .u8 (x2.toNat : Int), .int .u8 (x3.toNat : Int)] 5)) :=
  run_text (P := Try.prog) (l := [x0, x1, x2, x3]) _ 24 9 5 4 Try.underlying24 Try.underlying5 Try.underlying9 (rd_new w (cells [x0, x1, x2, x3]) 5 (0, 0))
theorem refword_any (n : Nat) (w : World) (hn : n < 65536) : Calls Try.prog 33 #[.int .i64 n] w fun e w' => e = .returned (txt (two n)) ∧ Below w.heap.size w w' := by
  have h1 := small_hi n hn
  have h2 := byte_lo n
  have HT : Hid (two n = [UInt8.ofNat (n / 256), UInt8.ofNat n]) := rfl
  generalize UInt8.ofNat (n / 256) = a at h1 HT
  generalize UInt8.ofNat n = b at h2 HT
  have hr := run_two (w.alloc (.cells #[.int .u8 (a.toNat : Int), .int .u8 (b.toNat : Int)] 5)) w.heap.size a b (heap_alloc_new w _)
  go_enter Try.func33, Try.ntmps33
  go_wp2
  go_ret
  exact ⟨by rw [HT.out]; rfl, (Below.refl _ _).alloc (Nat.le_refl _) _⟩
set_option maxHeartbeats 400000 in
theorem host_lit (x0 x1 x2 x3 : UInt8) (w : World) :
    Calls Try.prog 69 #[.agg #[.int .u8 (x0.toNat : Int), .int .u8 (x1.toNat : Int), .int .u8 (x2.toNat : Int), .int .u8 (x3.toNat : Int)]] w fun e w' => e = .returned (txt [x0, x1, x2, x3]) ∧ Below w.heap.size w w' := by
  have HB := Lib.hid ((Below.refl w.heap.size w).alloc (Nat.le_refl _) (.cells #[.int .u8 (x0.toNat : Int), .int .u8 (x1.toNat : Int), .int .u8 (x2.toNat : Int), .int .u8 (x3.toNat : Int)] 28))
  have hc := run_four (w.alloc (.cells #[.int .u8 (x0.toNat : Int), .int .u8 (x1.toNat : Int), .int .u8 (x2.toNat : Int), .int .u8 (x3.toNat : Int)] 28)) x0 x1 x2 x3
  rw [World.size_alloc] at hc
  go_enter Try.func69, Try.ntmps69
  go_wp2
  go_ret
  exact ⟨rfl, HB.out.alloc HB.out.size _⟩
/-- bytes.Clone of what is not nil -/
theorem clone_some (ad : Addr) (l : List UInt8) (c lo hi : Nat) (w : World) (h : Rd w lo hi (some ad) (cells l)) (hhi : hi ≤ w.heap.size) (hm : l.length ≤ 1000000000) :
    Calls Try.prog 40 #[.slice (some ad) l.length c] w (FreshPost w l) := by
  obtain ⟨i0, hi0, hz0, hz1, hz2⟩ := info_parts info_u8
  have HR := Lib.hid h
  have HH := Lib.hid hhi
  obtain ⟨n, hn⟩ : ∃ n, l.length = n := ⟨_, rfl⟩
  rw [hn] at hm ⊢
  have HN := Lib.hid hn
  clear h hhi hn
  have hnil := Lib.run_eql_slice_nil (P := Try.prog) w 24 5 (some ad) n c 0 0 Try.underlying24
  go_enter Try.func40, Try.ntmps40
  go_wp2_with (at_builtin; refine wpList_append_rd rfl _ _ 24 rfl w.heap.size 5 i0 (.int .u8 0) 1 Try.underlying24 hi0 hz0 hz1 hz2 rfl _ _ _ rfl (own_lit _ [] _ _ w.heap.size 0 (by simp) (by simp) (by unfold maxLen; omega) rfl) (some ad) n c (cells l) rfl (fun h => by cases h) (by rw [cells_length]; exact HN.out) ((HR.out.alloc HH.out _)) (cells_one l) (by unfold maxLen; omega) (by omega) (by simp) ?_)
  intro v2 w2 hown2 hgrow2
  have HB : Hid (Below w.heap.size w w2) := ((Below.refl w.heap.size w).alloc (Nat.le_refl _) _).grown hgrow2 (by simp) fun g hg => by simp [Value.ownBlock] at hg; omega
  obtain ⟨A5, c5, hv⟩ := own_form hown2
  rw [hv] at hown2 ⊢
  have HC := Lib.hid (own_cap hown2)
  have HA : Hid (A5 = none → c5 = 0) := by
    show _ → _
    rintro rfl
    rcases hown2.2 with ⟨he, _⟩ | ⟨g, cap, cur, he, _⟩
    · injection he
    · cases he
  have HO := Lib.hid (Rd.own hown2)
  clear hown2 hgrow2 hv
  go_wp2
  go_ret
  exact ⟨_, rfl, ⟨A5, c5, by rw [HN.out]; rfl, HO.out, HA.out, by rw [HN.out]; exact HC.out.1, HC.out.2⟩, HB.out⟩
/-- a slice of slices of bytes -/
def Lists (ps : List (List UInt8)) : Pred := fun v w => ∃ g vs, v = .slice (some ⟨g, 0, none⟩) ps.length ps.length ∧ Rd w 0 w.heap.size (some ⟨g, 0, none⟩) vs ∧ Bits w 0 w.heap.size vs ps
/-- bytes that the call owns -/
def Owned (B : Nat) (l : List UInt8) : Pred := fun v w => ∃ A c, v = .slice A l.length c ∧ OwnB w B (.slice A l.length c) l
theorem Bits.below {w w' : World} {lo hi B : Nat} {vs : List Value} {ps : List (List UInt8)} (h : Bits w lo hi vs ps) (hb : Below B w w') (hB : hi ≤ B) : Bits w' lo hi vs ps :=
  ⟨h.1, fun i p hp => by
    obtain ⟨A, c, h1, h2, h3⟩ := h.2 i p hp
    exact ⟨A, c, h1, h2.below hb hB, h3⟩⟩
theorem Bits.wide {w : World} {lo hi lo' hi' : Nat} {vs : List Value} {ps : List (List UInt8)} (h : Bits w lo hi vs ps) (hl : lo' ≤ lo) (hh : hi ≤ hi') : Bits w lo' hi' vs ps :=
  ⟨h.1, fun i p hp => by
    obtain ⟨A, c, h1, h2, h3⟩ := h.2 i p hp
    exact ⟨A, c, h1, h2.wide hl hh, h3⟩⟩
theorem fresh_mono (B : Nat) (l : List UInt8) : Mono (Fresh B l) := fun _ _ _ hb h => h.grow hb
theorem lists_mono (ps : List (List UInt8)) : Mono (Lists ps) := fun _ _ _ hb h => by
  obtain ⟨g, vs, e, h1, h2⟩ := h
  exact ⟨g, vs, e, (h1.below hb (Nat.le_refl _)).wide (Nat.le_refl _) hb.size, (h2.below hb (Nat.le_refl _)).wide (Nat.le_refl _) hb.size⟩
theorem owned_mono (B : Nat) (l : List UInt8) : Mono (Owned B l) := fun _ _ _ hb h => by
  obtain ⟨A, c, e, h1⟩ := h
  exact ⟨A, c, e, own_below h1 hb (Nat.le_refl _)⟩
/-- a part whose bytes are fresh, as one of a row of rows, the row in a new block -/
theorem fresh_bits {w : World} {B : Nat} {l : List UInt8} {A : Option Addr} {c : Nat} {vs : List Value} {ps : List (List UInt8)} (h1 : Rd w B w.heap.size A (cells l)) (h2 : A = none → c = 0) (h : Bits w 0 w.heap.size vs ps) : Bits w 0 w.heap.size (.slice A l.length c :: vs) (l :: ps) :=
  .cons (h1.wide (Nat.zero_le _) (Nat.le_refl _)) h2 h
theorem lists_new {w : World} {vs : List Value} {ps : List (List UInt8)} (h : Bits w 0 w.heap.size vs ps) (t : TypeId) : Lists ps (.slice (some ⟨w.heap.size, 0, none⟩) ps.length ps.length) (w.alloc (.cells vs.toArray t)) :=
  ⟨w.heap.size, vs, rfl, (rd_new w vs t (0, 0)).wide (Nat.zero_le _) (by simp), (h.alloc (Nat.le_refl _) _).wide (Nat.le_refl _) (by simp)⟩
/-- a piece of a block as a slice's cells -/
theorem rd_mid {w : World} {b o : Nat} {cs : Array Value} {t : TypeId} {fr : Nat × Nat} {xs : List Value} (hg : w.heap[b]? = some (.cells cs t fr)) (h : ∀ (k : Nat) u, xs[k]? = some u → cs[o + k]? = some u) :
    Rd w b (b + 1) (some ⟨b, o, none⟩) xs := by
  intro k u hu
  refine ⟨_, rfl, Nat.le_refl _, Nat.lt_succ_self _, ?_⟩
  have e : ((⟨b, o, none⟩ : Addr).add k) = ⟨b, o + k, none⟩ := by
    unfold Addr.add
    by_cases hk : k = 0 <;> simp [hk]
  rw [e, cell_of_row _ _ _ cs t fr hg]
  exact h k u hu
theorem row_lt {w : World} {b : Nat} {o : Obj} (h : w.heap[b]? = some o) : b < w.heap.size := (Array.getElem?_eq_some_iff.1 h).1
theorem old_alloc {w : World} {b : Nat} {o : Obj} (h : w.heap[b]? = some o) (o2 : Obj) : (w.alloc o2).heap[b]? = some o := (Below.heap_alloc _ _ _ (row_lt h)).trans h

theorem loads_of {w : World} {lo hi : Nat} {a : Addr} {xs : List Value} (h : Rd w lo hi (some a) xs) : ∀ j v, xs[j]? = some v → w.cell? (a.add j) = some v := fun j v hv => by
  obtain ⟨ad, e, _, _, hc⟩ := h j v hv
  cases e
  exact hc
theorem str_app (l m : List UInt8) : (⟨l.toArray⟩ : ByteArray) ++ ⟨m.toArray⟩ = ⟨(l ++ m).toArray⟩ := ba_app l m

theorem refword_all (n : Nat) (w : World) (hn : n < 1048576) : Calls Try.prog 33 #[.int .i64 n] w fun e w' => e = .returned (txt (two n)) ∧ Below w.heap.size w w' := by
  have h1 := byte_hi n
  have h2 := byte_lo n
  have HT : Hid (two n = [UInt8.ofNat (n / 256), UInt8.ofNat n]) := rfl
  generalize UInt8.ofNat (n / 256) = a at h1 HT
  generalize UInt8.ofNat n = b at h2 HT
  have hr := run_two (w.alloc (.cells #[.int .u8 (a.toNat : Int), .int .u8 (b.toNat : Int)] 5)) w.heap.size a b (heap_alloc_new w _)
  go_enter Try.func33, Try.ntmps33
  go_wp2
  go_ret
  exact ⟨by rw [HT.out]; rfl, (Below.refl _ _).alloc (Nat.le_refl _) _⟩
set_option maxRecDepth 100000 in
set_option maxHeartbeats 2000000 in
theorem pseudo_any (s0 s1 s2 s3 d0 d1 d2 d3 proto : UInt8) (n : Nat) (w : World) :
    Calls Try.prog 68 #[.agg #[.int .u8 (s0.toNat : Int), .int .u8 (s1.toNat : Int), .int .u8 (s2.toNat : Int), .int .u8 (s3.toNat : Int)], .agg #[.int .u8 (d0.toNat : Int), .int .u8 (d1.toNat : Int), .int .u8 (d2.toNat : Int), .int .u8 (d3.toNat : Int)], .int .u8 (proto.toNat : Int), .int .i64 (n : Int)] w fun e w' => ∃ A c, e = .returned (.slice A ([s0, s1, s2, s3] ++ [d0, d1, d2, d3] ++ [0, proto] ++ two n).length c) ∧ OwnB w' w.heap.size (.slice A ([s0, s1, s2, s3] ++ [d0, d1, d2, d3] ++ [0, proto] ++ two n).length c) ([s0, s1, s2, s3] ++ [d0, d1, d2, d3] ++ [0, proto] ++ two n) ∧ Below w.heap.size w w' := by
  obtain ⟨w0, hw0⟩ : ∃ w0, w0 = (w.alloc (.cells #[.int .u8 (s0.toNat : Int), .int .u8 (s1.toNat : Int), .int .u8 (s2.toNat : Int), .int .u8 (s3.toNat : Int)] 28)).alloc (.cells #[.int .u8 (d0.toNat : Int), .int .u8 (d1.toNat : Int), .int .u8 (d2.toNat : Int), .int .u8 (d3.toNat : Int)] 28) := ⟨_, rfl⟩
  have HW := Lib.hid hw0
  have HB0 : Hid (Below w.heap.size w w0) := by show Below _ _ _; rw [hw0]; exact ((Below.refl _ _).alloc (Nat.le_refl _) _).alloc (by simp) _
  have RDS : Hid (∀ w', Gro (fun _ => False) w0 w' → Rd w' 0 w'.heap.size (some ⟨w.heap.size, 0, none⟩) (cells [s0, s1, s2, s3])) := fun w' hg => by
    have h := (rd_new w (cells [s0, s1, s2, s3]) 28 (0, 0)).alloc (by simp) (.cells #[.int .u8 (d0.toNat : Int), .int .u8 (d1.toNat : Int), .int .u8 (d2.toNat : Int), .int .u8 (d3.toNat : Int)] 28)
    have hz : w.heap.size + 2 = w0.heap.size := by rw [hw0]; simp
    have h2 : Rd w0 w.heap.size (w.heap.size + 1) (some ⟨w.heap.size, 0, none⟩) (cells [s0, s1, s2, s3]) := by rw [hw0]; exact h
    exact (h2.below hg.belowF (by omega)).wide (Nat.zero_le _) (by have := hg.size; omega)
  have RDD : Hid (∀ w', Gro (fun _ => False) w0 w' → Rd w' 0 w'.heap.size (some ⟨w.heap.size + 1, 0, none⟩) (cells [d0, d1, d2, d3])) := fun w' hg => by
    have h := rd_new (w.alloc (.cells #[.int .u8 (s0.toNat : Int), .int .u8 (s1.toNat : Int), .int .u8 (s2.toNat : Int), .int .u8 (s3.toNat : Int)] 28)) (cells [d0, d1, d2, d3]) 28 (0, 0)
    rw [World.size_alloc] at h
    have hz : w.heap.size + 2 = w0.heap.size := by rw [hw0]; simp
    have h2 : Rd w0 (w.heap.size + 1) (w.heap.size + 1 + 1) (some ⟨w.heap.size + 1, 0, none⟩) (cells [d0, d1, d2, d3]) := by rw [hw0]; exact h
    exact (h2.below hg.belowF (by omega)).wide (Nat.zero_le _) (by have := hg.size; omega)
  clear hw0
  go_enter Try.func68, Try.ntmps68
  go_wp2_with fail
  rw [← HW.out]
  apply wp_region_rely (fun _ => False) (RL [Is _, Is _, Is _, Fresh w0.heap.size [0, proto], Is _, Fresh w0.heap.size (two n), Lists [[s0, s1, s2, s3], [d0, d1, d2, d3], [0, proto], two n], Owned w0.heap.size ([s0, s1, s2, s3] ++ [d0, d1, d2, d3] ++ [0, proto] ++ two n), Owned w0.heap.size ([s0, s1, s2, s3] ++ [d0, d1, d2, d3] ++ [0, proto] ++ two n)]) [false, false, false, false, false, false, false, false, true, true, true, true, true, true, true, true, true]
  · kernel_rfl
  · kernel_rfl
  · kernel_rfl
  · refine ⟨?_, ?_, ?_, ?_, ?_, ?_, ?_, ?_, ?_, trivial⟩
    · intro ev w' hC hc hf hb hr K hK
      have e4 : ev (.tmp 4) = _ := hb 4 (by kernel_rfl)
      have HK := Lib.hid hK
      have HC := Lib.hid hC
      clear hb hr hK hC hf
      unfold Run
      simp [execOp, Upon, go_sem, *]
      exact HK.out _ _ (.inl (Below.refl _ _)) rfl
    · intro ev w' hC hc hf hb hr K hK
      have e5 : ev (.tmp 5) = _ := hb 5 (by kernel_rfl)
      have HK := Lib.hid hK
      have HC := Lib.hid hC
      clear hb hr hK hC hf
      unfold Run
      simp [execOp, Upon, go_sem, *]
      exact HK.out _ _ (.inl (Below.refl _ _)) rfl
    · intro ev w' hC hc hf hb hr K hK
      have e2 : ev (.tmp 2) = _ := hb 2 (by kernel_rfl)
      have HK := Lib.hid hK
      have HC := Lib.hid hC
      clear hb hr hK hC hf
      unfold Run
      simp [execOp, Upon, go_sem, *]
      exact HK.out _ _ (.inl (Below.refl _ _)) rfl
    · intro ev w' hC hc hf hb hr K hK
      have e11 := hr 2 _ rfl (by kernel_rfl)
      change ev (.tmp 11) = _ at e11
      have HK := Lib.hid hK
      have HC := Lib.hid hC
      clear hb hr hK hC hf
      unfold Run
      simp [execOp, Upon, go_sem, *]
      exact HK.out _ _ (.inl ((Below.refl _ _).alloc (Nat.le_refl _) _)) ⟨some ⟨w'.heap.size, 0, none⟩, 2, rfl, by rw [World.size_alloc]; exact (rd_new w' (cells [0, proto]) 5 (0, 0)).wide HC.out.size (Nat.le_refl _), (fun h => by cases h), Nat.le_refl _, (by unfold maxLen; simp)⟩
    · intro ev w' hC hc hf hb hr K hK
      have e3 : ev (.tmp 3) = _ := hb 3 (by kernel_rfl)
      have HK := Lib.hid hK
      have HC := Lib.hid hC
      clear hb hr hK hC hf
      unfold Run
      simp [execOp, Upon, go_sem, *]
      exact HK.out _ _ (.inl (Below.refl _ _)) rfl
    · intro ev w' hC hc hf hb hr K hK
      have e13 := hr 4 _ rfl (by kernel_rfl)
      change ev (.tmp 13) = _ at e13
      have HK := Lib.hid hK
      have HC := Lib.hid hC
      clear hb hr hK hC
      unfold Run
      simp [execOp, Upon, go_sem, *]
      refine (pair_any n _).mono ?_
      rintro e w2 ⟨v, rfl, hf, hb⟩
      exact ⟨v, rfl, HK.out _ _ (.inl hb) (hf.wide HC.out.size)⟩
    · intro ev w' hC hc hf hb hr K hK
      have e9 := hr 0 _ rfl (by kernel_rfl)
      have e10 := hr 1 _ rfl (by kernel_rfl)
      have e12 := hr 3 _ rfl (by kernel_rfl)
      have e14 := hr 5 _ rfl (by kernel_rfl)
      change ev (.tmp 9) = _ at e9
      change ev (.tmp 10) = _ at e10
      change (Fresh w0.heap.size [0, proto] : Pred) (ev (.tmp 12)) _ at e12
      change (Fresh w0.heap.size (two n) : Pred) (ev (.tmp 14)) _ at e14
      have HK := Lib.hid hK
      have HC := Lib.hid hC
      clear hb hr hK hC hf
      obtain ⟨A12, c12, q12, r12, z12, _⟩ := e12
      obtain ⟨A14, c14, q14, r14, z14, _⟩ := e14
      have hb1 := fresh_bits r12 z12 (fresh_bits r14 z14 (Bits.nil (w := w') (lo := 0) (hi := w'.heap.size)))
      have hb2 := Bits.cons (c := 4) (RDD.out w' HC.out) (fun h => by cases h) hb1
      have HBI := Lib.hid (Bits.cons (c := 4) (RDS.out w' HC.out) (fun h => by cases h) hb2)
      clear r12 z12 r14 z14 hb1 hb2
      simp only [two_length, List.length_cons, List.length_nil] at q12 q14
      unfold Run
      simp [execOp, Upon, go_sem, *]
      exact HK.out _ _ (.inl ((Below.refl _ _).alloc (Nat.le_refl _) _)) (lists_new HBI.out _)
    · intro ev w' hC hc hf hb hr K hK
      have e15 := hr 6 _ rfl (by kernel_rfl)
      change (Lists [[s0, s1, s2, s3], [d0, d1, d2, d3], [0, proto], two n] : Pred) (ev (.tmp 15)) _ at e15
      have HK := Lib.hid hK
      have HC := Lib.hid hC
      clear hb hr hK hC
      obtain ⟨g15, vs, q15, r15, hb15⟩ := e15
      simp only [List.length_cons, List.length_nil] at q15
      have HCC := Lib.hid (concat_any ⟨g15, 0, none⟩ 4 _ _ _ _ vs _ w' r15 hb15 (Nat.le_refl _) (Nat.le_refl _) (by simp [two_length]) (by simp))
      clear r15 hb15
      unfold Run
      simp [execOp, Upon, go_sem, *]
      refine HCC.out.mono ?_
      rintro e w2 ⟨A2, c2, rfl, ho, hb⟩
      exact ⟨_, rfl, HK.out _ _ (.inl hb) ⟨A2, c2, rfl, own_base ho HC.out.size⟩⟩
    · intro ev w' hC hc hf hb hr K hK
      have e16 := hr 7 _ rfl (by kernel_rfl)
      change (Owned w0.heap.size ([s0, s1, s2, s3] ++ [d0, d1, d2, d3] ++ [0, proto] ++ two n) : Pred) (ev (.tmp 16)) _ at e16
      have HK := Lib.hid hK
      have HC := Lib.hid hC
      clear hb hr hK hC hf
      have E16 := Lib.hid e16
      clear e16
      unfold Run
      simp [execOp, Upon, go_sem, *]
      exact HK.out _ _ (.inl (Below.refl _ _)) E16.out
  · exact rl_mono ⟨is_mono _, is_mono _, is_mono _, fresh_mono _ _, is_mono _, fresh_mono _ _, lists_mono _, owned_mono _ _, owned_mono _ _, trivial⟩
  intro us wr hG hH
  obtain ⟨-, -, -, -, -, -, -, -, h8, -⟩ := hH
  simp only [fillM]
  change (Owned w0.heap.size ([s0, s1, s2, s3] ++ [d0, d1, d2, d3] ++ [0, proto] ++ two n) : Pred) (us 8) wr at h8
  generalize us 9 = v9
  generalize us 10 = v10
  generalize us 11 = v11
  generalize us 12 = v12
  generalize us 13 = v13
  generalize us 14 = v14
  generalize us 15 = v15
  generalize us 16 = v16
  generalize us 8 = v8 at h8 ⊢
  obtain ⟨A8, c8, rfl, ho⟩ := h8
  have HO : Hid (OwnB wr w.heap.size _ _) := own_base ho HB0.out.size
  have HBF : Hid (Below w.heap.size w wr) := HB0.out.trans (hG.belowF.mono HB0.out.size)
  clear hG ho
  go_wp2
  go_ret
  exact ⟨A8, c8, rfl, HO.out, HBF.out⟩
set_option maxRecDepth 100000 in
set_option maxHeartbeats 2000000 in
theorem refpseudo_any (s0 s1 s2 s3 d0 d1 d2 d3 proto : UInt8) (n : Nat) (w : World) (hn : n < 1048576) :
    Calls Try.prog 36 #[.agg #[.int .u8 (s0.toNat : Int), .int .u8 (s1.toNat : Int), .int .u8 (s2.toNat : Int), .int .u8 (s3.toNat : Int)], .agg #[.int .u8 (d0.toNat : Int), .int .u8 (d1.toNat : Int), .int .u8 (d2.toNat : Int), .int .u8 (d3.toNat : Int)], .int .u8 (proto.toNat : Int), .int .i64 (n : Int)] w fun e w' => e = .returned (txt ([s0, s1, s2, s3] ++ [d0, d1, d2, d3] ++ [0, proto] ++ two n)) ∧ Below w.heap.size w w' := by
  obtain ⟨w0, hw0⟩ : ∃ w0, w0 = (w.alloc (.cells #[.int .u8 (s0.toNat : Int), .int .u8 (s1.toNat : Int), .int .u8 (s2.toNat : Int), .int .u8 (s3.toNat : Int)] 28)).alloc (.cells #[.int .u8 (d0.toNat : Int), .int .u8 (d1.toNat : Int), .int .u8 (d2.toNat : Int), .int .u8 (d3.toNat : Int)] 28) := ⟨_, rfl⟩
  have HW := Lib.hid hw0
  have HB0 : Hid (Below w.heap.size w w0) := by show Below _ _ _; rw [hw0]; exact ((Below.refl _ _).alloc (Nat.le_refl _) _).alloc (by simp) _
  have RDS : Hid (∀ w', Gro (fun _ => False) w0 w' → Rd w' 0 w'.heap.size (some ⟨w.heap.size, 0, none⟩) (cells [s0, s1, s2, s3])) := fun w' hg => by
    have h := (rd_new w (cells [s0, s1, s2, s3]) 28 (0, 0)).alloc (by simp) (.cells #[.int .u8 (d0.toNat : Int), .int .u8 (d1.toNat : Int), .int .u8 (d2.toNat : Int), .int .u8 (d3.toNat : Int)] 28)
    have hz : w.heap.size + 2 = w0.heap.size := by rw [hw0]; simp
    have h2 : Rd w0 w.heap.size (w.heap.size + 1) (some ⟨w.heap.size, 0, none⟩) (cells [s0, s1, s2, s3]) := by rw [hw0]; exact h
    exact (h2.below hg.belowF (by omega)).wide (Nat.zero_le _) (by have := hg.size; omega)
  have RDD : Hid (∀ w', Gro (fun _ => False) w0 w' → Rd w' 0 w'.heap.size (some ⟨w.heap.size + 1, 0, none⟩) (cells [d0, d1, d2, d3])) := fun w' hg => by
    have h := rd_new (w.alloc (.cells #[.int .u8 (s0.toNat : Int), .int .u8 (s1.toNat : Int), .int .u8 (s2.toNat : Int), .int .u8 (s3.toNat : Int)] 28)) (cells [d0, d1, d2, d3]) 28 (0, 0)
    rw [World.size_alloc] at h
    have hz : w.heap.size + 2 = w0.heap.size := by rw [hw0]; simp
    have h2 : Rd w0 (w.heap.size + 1) (w.heap.size + 1 + 1) (some ⟨w.heap.size + 1, 0, none⟩) (cells [d0, d1, d2, d3]) := by rw [hw0]; exact h
    exact (h2.below hg.belowF (by omega)).wide (Nat.zero_le _) (by have := hg.size; omega)
  clear hw0
  have FRT : Hid (Value.string ((⟨#[s0, s1, s2, s3]⟩ : ByteArray) ++ ⟨#[d0, d1, d2, d3]⟩ ++ ⟨#[0, proto]⟩ ++ ⟨(two n).toArray⟩) = txt ([s0, s1, s2, s3] ++ [d0, d1, d2, d3] ++ [0, proto] ++ two n)) := by
    show _ = _
    congr 1
  go_enter Try.func36, Try.ntmps36
  go_wp2_with fail
  rw [← HW.out]
  apply wp_region_rely (fun _ => False) (RL [Is (.agg #[.int .u8 (s0.toNat : Int), .int .u8 (s1.toNat : Int), .int .u8 (s2.toNat : Int), .int .u8 (s3.toNat : Int)]), Is (txt [s0, s1, s2, s3]), Is (.agg #[.int .u8 (d0.toNat : Int), .int .u8 (d1.toNat : Int), .int .u8 (d2.toNat : Int), .int .u8 (d3.toNat : Int)]), Is (txt [d0, d1, d2, d3]), Is _, Is _, Fresh w0.heap.size [0, proto], Is (txt [0, proto]), Is _, Is _, Is (txt (two n)), Is (txt ([s0, s1, s2, s3] ++ [d0, d1, d2, d3] ++ [0, proto] ++ two n)), Is (txt ([s0, s1, s2, s3] ++ [d0, d1, d2, d3] ++ [0, proto] ++ two n))]) [false, false, false, false, false, false, false, false, true, true, true, true, true, true, true, true, true, true, true, true, true]
  · kernel_rfl
  · kernel_rfl
  · kernel_rfl
  · refine ⟨?_, ?_, ?_, ?_, ?_, ?_, ?_, ?_, ?_, ?_, ?_, ?_, ?_, trivial⟩
    · intro ev w' hC hc hf hb hr K hK
      have e4 : ev (.tmp 4) = _ := hb 4 (by kernel_rfl)
      have HK := Lib.hid hK
      have HC := Lib.hid hC
      clear hb hr hK hC hf
      have hl := run_loadVar_at (P := Try.prog) w' ⟨w.heap.size, 0, none⟩ 28 (cells [s0, s1, s2, s3]) _ (loads_of (RDS.out w' HC.out)) Try.underlying28 rfl (by kernel_rfl)
      unfold Run
      rw [run_loadE 28 _ rfl e4 hl]
      exact HK.out _ _ (.inl (Below.refl _ _)) rfl
    · intro ev w' hC hc hf hb hr K hK
      have e9 := hr 0 _ rfl (by kernel_rfl)
      change ev (.tmp 9) = _ at e9
      have HK := Lib.hid hK
      have HC := Lib.hid hC
      clear hb hr hK hC
      unfold Run
      simp [execOp, Upon, go_sem, *]
      refine (host_lit s0 s1 s2 s3 _).mono ?_
      rintro e w2 ⟨rfl, hb⟩
      exact ⟨_, rfl, HK.out _ _ (.inl hb) rfl⟩
    · intro ev w' hC hc hf hb hr K hK
      have e5 : ev (.tmp 5) = _ := hb 5 (by kernel_rfl)
      have HK := Lib.hid hK
      have HC := Lib.hid hC
      clear hb hr hK hC hf
      have hl := run_loadVar_at (P := Try.prog) w' ⟨w.heap.size + 1, 0, none⟩ 28 (cells [d0, d1, d2, d3]) _ (loads_of (RDD.out w' HC.out)) Try.underlying28 rfl (by kernel_rfl)
      unfold Run
      rw [run_loadE 28 _ rfl e5 hl]
      exact HK.out _ _ (.inl (Below.refl _ _)) rfl
    · intro ev w' hC hc hf hb hr K hK
      have e11 := hr 2 _ rfl (by kernel_rfl)
      change ev (.tmp 11) = _ at e11
      have HK := Lib.hid hK
      have HC := Lib.hid hC
      clear hb hr hK hC
      unfold Run
      simp [execOp, Upon, go_sem, *]
      refine (host_lit d0 d1 d2 d3 _).mono ?_
      rintro e w2 ⟨rfl, hb⟩
      exact ⟨_, rfl, HK.out _ _ (.inl hb) rfl⟩
    · intro ev w' hC hc hf hb hr K hK
      have e10 := hr 1 _ rfl (by kernel_rfl)
      have e12 := hr 3 _ rfl (by kernel_rfl)
      change ev (.tmp 10) = _ at e10
      change ev (.tmp 12) = _ at e12
      have HK := Lib.hid hK
      have HC := Lib.hid hC
      clear hb hr hK hC hf
      unfold Run
      simp [execOp, Upon, go_sem, *]
      exact HK.out _ _ (.inl (Below.refl _ _)) rfl
    · intro ev w' hC hc hf hb hr K hK
      have e2 : ev (.tmp 2) = _ := hb 2 (by kernel_rfl)
      have HK := Lib.hid hK
      have HC := Lib.hid hC
      clear hb hr hK hC hf
      unfold Run
      simp [execOp, Upon, go_sem, *]
      exact HK.out _ _ (.inl (Below.refl _ _)) rfl
    · intro ev w' hC hc hf hb hr K hK
      have e14 := hr 5 _ rfl (by kernel_rfl)
      change ev (.tmp 14) = _ at e14
      have HK := Lib.hid hK
      have HC := Lib.hid hC
      clear hb hr hK hC hf
      unfold Run
      simp [execOp, Upon, go_sem, *]
      exact HK.out _ _ (.inl ((Below.refl _ _).alloc (Nat.le_refl _) _)) ⟨some ⟨w'.heap.size, 0, none⟩, 2, rfl, by rw [World.size_alloc]; exact (rd_new w' (cells [0, proto]) 5 (0, 0)).wide HC.out.size (Nat.le_refl _), (fun h => by cases h), Nat.le_refl _, (by unfold maxLen; simp)⟩
    · intro ev w' hC hc hf hb hr K hK
      have e15 := hr 6 _ rfl (by kernel_rfl)
      change (Fresh w0.heap.size [0, proto] : Pred) (ev (.tmp 15)) _ at e15
      have HK := Lib.hid hK
      have HC := Lib.hid hC
      clear hb hr hK hC hf
      obtain ⟨A15, c15, q15, r15, _⟩ := e15
      have kt := run_text (P := Try.prog) w' 24 9 5 c15 Try.underlying24 Try.underlying5 Try.underlying9 r15
      clear r15
      simp only [List.length_cons, List.length_nil, Nat.zero_add] at q15 kt
      unfold Run
      simp [execOp, Upon, go_sem, *]
      exact HK.out _ _ (.inl (Below.refl _ _)) rfl
    · intro ev w' hC hc hf hb hr K hK
      have e13 := hr 4 _ rfl (by kernel_rfl)
      have e16 := hr 7 _ rfl (by kernel_rfl)
      change ev (.tmp 13) = _ at e13
      change ev (.tmp 16) = _ at e16
      have HK := Lib.hid hK
      have HC := Lib.hid hC
      clear hb hr hK hC hf
      unfold Run
      simp [execOp, Upon, go_sem, *]
      exact HK.out _ _ (.inl (Below.refl _ _)) rfl
    · intro ev w' hC hc hf hb hr K hK
      have e3 : ev (.tmp 3) = _ := hb 3 (by kernel_rfl)
      have HK := Lib.hid hK
      have HC := Lib.hid hC
      clear hb hr hK hC hf
      unfold Run
      simp [execOp, Upon, go_sem, *]
      exact HK.out _ _ (.inl (Below.refl _ _)) rfl
    · intro ev w' hC hc hf hb hr K hK
      have e18 := hr 9 _ rfl (by kernel_rfl)
      change ev (.tmp 18) = _ at e18
      have HK := Lib.hid hK
      have HC := Lib.hid hC
      clear hb hr hK hC
      unfold Run
      simp [execOp, Upon, go_sem, *]
      refine (refword_all n _ hn).mono ?_
      rintro e w2 ⟨rfl, hb⟩
      exact ⟨_, rfl, HK.out _ _ (.inl hb) rfl⟩
    · intro ev w' hC hc hf hb hr K hK
      have e17 := hr 8 _ rfl (by kernel_rfl)
      have e19 := hr 10 _ rfl (by kernel_rfl)
      change ev (.tmp 17) = _ at e17
      change ev (.tmp 19) = _ at e19
      have HK := Lib.hid hK
      have HC := Lib.hid hC
      clear hb hr hK hC hf
      unfold Run
      simp [execOp, Upon, go_sem, *]
      exact HK.out _ _ (.inl (Below.refl _ _)) (by show _ = _; first | done | exact FRT.out)
    · intro ev w' hC hc hf hb hr K hK
      have e20 := hr 11 _ rfl (by kernel_rfl)
      change ev (.tmp 20) = _ at e20
      have HK := Lib.hid hK
      have HC := Lib.hid hC
      clear hb hr hK hC hf
      unfold Run
      simp [execOp, Upon, go_sem, *]
      exact HK.out _ _ (.inl (Below.refl _ _)) rfl
  · exact rl_mono ⟨is_mono _, is_mono _, is_mono _, is_mono _, is_mono _, is_mono _, fresh_mono _ _, is_mono _, is_mono _, is_mono _, is_mono _, is_mono _, is_mono _, trivial⟩
  intro us wr hG hH
  obtain ⟨-, -, -, -, -, -, -, -, -, -, -, -, h12, -⟩ := hH
  simp only [fillM]
  change us 8 = _ at h12
  rw [h12]
  clear h12
  generalize us 9 = v9
  generalize us 10 = v10
  generalize us 11 = v11
  generalize us 12 = v12
  generalize us 13 = v13
  generalize us 14 = v14
  generalize us 15 = v15
  generalize us 16 = v16
  generalize us 17 = v17
  generalize us 18 = v18
  generalize us 19 = v19
  generalize us 20 = v20
  have HBF : Hid (Below w.heap.size w wr) := HB0.out.trans (hG.belowF.mono HB0.out.size)
  clear hG
  go_wp2
  go_ret
  exact ⟨rfl, HBF.out⟩

/-- what a function leaves that hands back new bytes of the call's own and an error -/
def OwnPost (w : World) (r : List UInt8 × Int) (e : Ending) (w' : World) : Prop :=
  ∃ A c, e = .returned (.tuple #[.slice A r.1.length c, .int .i64 r.2]) ∧ OwnB w' w.heap.size (.slice A r.1.length c) r.1 ∧ Below w.heap.size w w'
theorem own_none {w w' : World} {r : List UInt8 × Int} {z : Int} (h : r = ([], z)) (hb : Below w.heap.size w w') : OwnPost w r (.returned (.tuple #[.slice none 0 0, .int .i64 z])) w' := by
  subst h
  exact ⟨none, 0, rfl, World.ownsRow_nil _ _ _ _, hb⟩
theorem copy_src {w : World} {lo hi : Nat} {A : Option Addr} {l : List UInt8} (h : Rd w lo hi A (cells l)) (hl : 0 < l.length := by decide) : ∃ ad, A = some ad ∧ ∀ j v, (cells l)[j]? = some v → w.cell? (ad.add j) = some v := by
  obtain ⟨ad, rfl, _⟩ := h.byte (k := 0) hl
  refine ⟨ad, rfl, fun j v hv => ?_⟩
  obtain ⟨ad', e, _, _, hc⟩ := h j v hv
  cases e
  exact hc

/-- a text's bytes in a new row: how much room, and the world -/
def capB (w : World) (n : Nat) : Nat := grownCap w n 0 5
def bwB (w : World) (l : List UInt8) : World := w.drew.alloc (.cells (bytesRow ⟨l.toArray⟩ (grownCap w l.length 0 5)) 5 ((bytesRow ⟨l.toArray⟩ (grownCap w l.length 0 5)).size, (bytesRow ⟨l.toArray⟩ (grownCap w l.length 0 5)).size + 1))
theorem run_bytes (w : World) (l : List UInt8) (n : Nat) (hn : l.length = n) : (convert 9 24 (.string ⟨l.toArray⟩)).run Try.prog w = .ok (.slice (some ⟨w.heap.size, 0, none⟩) n (capB w n)) (bwB w l) := by
  subst hn
  exact run_bytes_of_string w 9 24 5 ⟨l.toArray⟩ Try.underlying9 Try.underlying24 Try.underlying5
theorem bw_size (w : World) (l : List UInt8) : (bwB w l).heap.size = w.heap.size + 1 := by unfold bwB; simp
theorem bw_below {B : Nat} {a w : World} (h : Below B a w) (hB : B ≤ w.heap.size) (l : List UInt8) : Below B a (bwB w l) := by
  unfold bwB
  exact (h.drew).alloc hB _
theorem bw_rd (w : World) (l : List UInt8) : Rd (bwB w l) w.heap.size (w.heap.size + 1) (some ⟨w.heap.size, 0, none⟩) (cells l) := by
  refine rd_mid (cs := bytesRow ⟨l.toArray⟩ (grownCap w l.length 0 5)) (t := 5) (heap_alloc_new w.drew _) fun k u hu => ?_
  have hk := (List.getElem?_eq_some_iff.1 hu).1
  rw [cells_length] at hk
  rw [cells_get l k hk] at hu
  cases hu
  rw [Nat.zero_add, bytesRow_at _ _ k (by simpa using hk)]
  simp
theorem cap_ok (w : World) (n : Nat) (hn : n ≤ 1000000000) : n ≤ capB w n ∧ capB w n ≤ maxLen := ⟨grownCap_ge w _ _ _, grownCap_le_maxLen w n 0 5 (by unfold maxLen; omega)⟩
theorem ba_take (l : List UInt8) (a b : Nat) : (⟨l.toArray⟩ : ByteArray).extract a b = ⟨((l.take b).drop a).toArray⟩ := by
  apply ByteArray.ext
  simp [List.drop_take]
theorem texts_ne {s t : List UInt8} (h : s ≠ t) : (s == t) = false ∧ ((⟨s.toArray⟩ : ByteArray).toList == (⟨t.toArray⟩ : ByteArray).toList) = false := by
  have h1 : (s == t) = false := by rw [beq_eq_false_iff_ne]; exact h
  refine ⟨h1, ?_⟩
  rw [Lib.toList_data, Lib.toList_data]
  exact h1
end Go.Proofs.Ytjgdmkmfnkaoaaa
