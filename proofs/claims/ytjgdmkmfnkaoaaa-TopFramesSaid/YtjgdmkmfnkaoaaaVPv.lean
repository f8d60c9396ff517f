/-
  ip4.pair, ip4.word, bytes.Clone and the document's Word, Num, Host: their answers, for all that can be read.
-/
/-
  What a packet's value reads as; predicates for rows of rows; ip4.placed. No condition.
-/
import Derived.Test.YtjgdmkmfnkaoaaaPk
import Derived.Test.YtjgdmkmfnkaoaaaRely
import Derived.Test.YtjgdmkmfnkaoaaaConcat
import Derived.Test.YtjgdmkmfnkaoaaaFoldS
import Derived.Test.YtjgdmkmfnkaoaaaRefS
import Derived.StillTailTactics
import Derived.Laws.BitsAllLaws
import Derived.IntWalk
import Derived.Laws.Rows
import Derived.Laws.ResultCell
import Derived.Laws.Tables
import Derived.Deep.MidRow
namespace Go.Proofs.Ytjgdmkmfnkaoaaa.V
open Go.RowKit

/-- bytes in a slice of the call's own, from block B on -/
def Fresh (B : Nat) (l : List UInt8) : Pred := fun v w => ∃ A c, v = .slice A l.length c ∧ Rd w B w.heap.size A (cells l) ∧ (A = none → c = 0) ∧ l.length ≤ c ∧ c ≤ maxLen
/-- what a function leaves that hands back new bytes -/
def FreshPost (w : World) (l : List UInt8) (e : Ending) (w' : World) : Prop := ∃ v, e = .returned v ∧ Fresh w.heap.size l v w' ∧ Below w.heap.size w w'
theorem Fresh.wide {B B' : Nat} {l : List UInt8} {v : Value} {w : World} (h : Fresh B l v w) (hB : B' ≤ B) : Fresh B' l v w := by
  obtain ⟨A, c, h1, h2, h3⟩ := h
  exact ⟨A, c, h1, h2.wide hB (Nat.le_refl _), h3⟩
theorem Fresh.grow {B : Nat} {l : List UInt8} {v : Value} {w w' : World} (h : Fresh B l v w) (hb : Below w.heap.size w w') : Fresh B l v w' := by
  obtain ⟨A, c, h1, h2, h3⟩ := h
  exact ⟨A, c, h1, (h2.below hb (Nat.le_refl _)).wide (Nat.le_refl _) hb.size, h3⟩

theorem byte_hi (n : Nat) : (n : Int) / 256 % 256 = ((UInt8.ofNat (n / 256)).toNat : Int) := by rw [u8_of]; omega
theorem byte_lo (n : Nat) : (n : Int) % 256 = ((UInt8.ofNat n).toNat : Int) := by rw [u8_of]; omega
theorem small_hi (n : Nat) (h : n < 65536) : (n : Int) / 256 = ((UInt8.ofNat (n / 256)).toNat : Int) := by rw [u8_of]; omega

set_option maxRecDepth 100000 in
theorem pair_any (n : Nat) (w : World) : Calls Try.prog 48 #[.int .i64 n] w (FreshPost w (two n)) := by
  have h1 := byte_hi n
  have h2 := byte_lo n
  have HT : Hid (two n = [UInt8.ofNat (n / 256), UInt8.ofNat n]) := rfl
  generalize UInt8.ofNat (n / 256) = a at h1 HT
  generalize UInt8.ofNat n = b at h2 HT
  go_enter Try.func48, Try.ntmps48
  go_wp2
  go_ret
  exact ⟨_, rfl, ⟨some ⟨w.heap.size, 0, none⟩, 2, by rw [HT.out]; rfl, by rw [HT.out, World.size_alloc]; exact rd_new w (cells [a, b]) 5 (0, 0), (fun h => by cases h), (by rw [HT.out]; exact Nat.le_refl _), (by unfold maxLen; omega)⟩, (Below.refl _ _).alloc (Nat.le_refl _) _⟩


theorem or_byte (g c : Nat) (hc : c < 256) : g * 256 ||| c = g * 256 + c := by
  have h := Nat.two_pow_add_eq_or_of_lt (i := 8) (b := c) (by omega) g
  rw [show (2 : Nat) ^ 8 = 256 from rfl] at h
  rw [Nat.mul_comm g 256, h]
theorem or_word (x y : Nat) (hx : x < 256) (hy : y < 256) : bits .or .u16 ((x : Int) * 256) (y : Int) = ((256 * x + y : Nat) : Int) := by
  have e : (x : Int) * 256 = ((x * 256 : Nat) : Int) := by omega
  rw [e, u16_or_nat _ _ (by omega) (by omega), or_byte x y hy, Nat.mul_comm]

set_option maxRecDepth 100000 in
set_option maxHeartbeats 400000 in
theorem word_any (A : Option Addr) (l : List UInt8) (k c lo hi : Nat) (w : World) (h : Rd w lo hi A (cells l)) (hk : k + 1 < l.length) (hm : l.length ≤ maxLen) :
    Calls Try.prog 52 #[.slice A l.length c, .int .i64 k] w fun e w' => e = .returned (.int .u16 (numAt l k : Nat)) ∧ Below w.heap.size w w' := by
  obtain ⟨ad, rfl, h1⟩ := h.byte (k := k) (by omega)
  obtain ⟨ad', e, h2⟩ := h.byte (k := k + 1) hk
  cases e
  have e2 : ad.add (k + 1) = ⟨ad.block, ad.off + (k + 1), none⟩ := by unfold Addr.add; simp
  rw [e2] at h2
  clear e2
  have HN : Hid (numAt l k = 256 * l[k].toNat + l[k + 1].toNat) := by
    show _ = _
    unfold numAt
    simp [List.getD_eq_getElem?_getD, show k < l.length from by omega, hk]
  have b1 := l[k].toNat_lt
  have b2 := l[k + 1].toNat_lt
  generalize l[k].toNat = x at *
  generalize l[k + 1].toNat = y at *
  generalize l.length = n at *
  have eo := or_word x y (by omega) (by omega)
  have EO := Lib.hid eo
  unfold maxLen at hm
  clear h eo
  go_enter Try.func52, Try.ntmps52
  go_wp2_with fail
  have i0 : (0 : Int) ≤ (k : Int) := by omega
  have i1 : (k : Int) < (n : Int) := by omega
  have i2 : (0 : Int) ≤ (k : Int) + 1 := by omega
  have i3 : (k : Int) + 1 < (n : Int) := by omega
  have i4 : ((k : Int) + 1).toNat = k + 1 := by omega
  have e1 : IntKind.i64.wrap ((k : Int) + 1) = (k : Int) + 1 := IntWalk.i64_in _ ⟨by omega, by omega⟩
  go_quiet (fail)
  go_wp2
  go_ret
  exact ⟨by rw [HN.out, ← EO.out]; rfl, below_drewN' (Below.refl _ _) _⟩

theorem wrap_num (x y : UInt8) : IntKind.i64.wrap (IntKind.i64.wrap (IntKind.i64.wrap (x.toNat : Int) * 256) + IntKind.i64.wrap (y.toNat : Int)) = ((256 * x.toNat + y.toNat : Nat) : Int) := by
  have := x.toNat_lt
  have := y.toNat_lt
  rw [IntWalk.i64_in (x.toNat : Int) ⟨by omega, by omega⟩, IntWalk.i64_in (y.toNat : Int) ⟨by omega, by omega⟩, IntWalk.i64_in ((x.toNat : Int) * 256) ⟨by omega, by omega⟩, IntWalk.i64_in _ ⟨by omega, by omega⟩]
  omega
set_option maxRecDepth 100000 in
set_option maxHeartbeats 400000 in
theorem num_any (l : List UInt8) (k : Nat) (w : World) (hk : k + 1 < l.length) (hm : l.length ≤ maxLen) :
    Calls Try.prog 43 #[txt l, .int .i64 k] w fun e w' => e = .returned (.int .i64 (numAt l k : Nat)) ∧ Below w.heap.size w w' := by
  unfold maxLen at hm
  have i0 : (0 : Int) ≤ (k : Int) := by omega
  have i1 : (k : Int) < (l.length : Int) := by omega
  have i2 : (0 : Int) ≤ (k : Int) + 1 := by omega
  have i3 : (k : Int) + 1 < (l.length : Int) := by omega
  have i4 : ((k : Int) + 1).toNat = k + 1 := by omega
  have i5 : k < l.length := by omega
  have e1 : IntKind.i64.wrap ((k : Int) + 1) = (k : Int) + 1 := IntWalk.i64_in _ ⟨by omega, by omega⟩
  obtain ⟨x, hx⟩ : ∃ x, l[k] = x := ⟨_, rfl⟩
  obtain ⟨y, hy⟩ : ∃ y, l[k + 1] = y := ⟨_, rfl⟩
  have HN : Hid (numAt l k = 256 * x.toNat + y.toNat) := by
    show _ = _
    unfold numAt
    simp [List.getD_eq_getElem?_getD, i5, hk, hx, hy]
  have hx2 : (⟨l.toArray⟩ : ByteArray)[k]'(by show k < l.length; exact i5) = x := hx
  have hy2 : (⟨l.toArray⟩ : ByteArray)[k + 1]'(by show k + 1 < l.length; exact hk) = y := hy
  clear hx hy
  go_enter Try.func43, Try.ntmps43
  go_wp2_with fail
  apply wp_region_rely (fun _ => False) (RL [Is _, Is _, Is _, Is _, Is _, Is _, Is _, Is _, Is _, Is _, Is _, Is _]) [false, false, false, false, true, true, true, true, true, true, true, true, true, true, true, true]
  · kernel_rfl
  · kernel_rfl
  · kernel_rfl
  · refine ⟨?_, ?_, ?_, ?_, ?_, ?_, ?_, ?_, ?_, ?_, ?_, ?_, trivial⟩
    · intro ev w' hC hc hf hb hr K hK
      have e0 : ev (.tmp 0) = _ := hb 0 (by kernel_rfl)
      have HK := Lib.hid hK
      have HC := Lib.hid hC
      clear hb hr hK hf hC
      unfold Run
      simp [execOp, Upon, go_sem, *]
      exact HK.out _ _ (.inl (Below.refl _ _)) rfl
    · intro ev w' hC hc hf hb hr K hK
      have e1 : ev (.tmp 1) = _ := hb 1 (by kernel_rfl)
      have HK := Lib.hid hK
      have HC := Lib.hid hC
      clear hb hr hK hf hC
      unfold Run
      simp [execOp, Upon, go_sem, *]
      exact HK.out _ _ (.inl (Below.refl _ _)) rfl
    · intro ev w' hC hc hf hb hr K hK
      have e5 := hr 0 _ rfl (by kernel_rfl)
      have e6 := hr 1 _ rfl (by kernel_rfl)
      change ev (.tmp 5) = _ at e5
      change ev (.tmp 6) = _ at e6
      have HK := Lib.hid hK
      have HC := Lib.hid hC
      clear hb hr hK hf hC
      unfold Run
      simp [execOp, Upon, go_sem, *]
      exact HK.out _ _ (.inl (Below.refl _ _)) rfl
    · intro ev w' hC hc hf hb hr K hK
      have e7 := hr 2 _ rfl (by kernel_rfl)
      change ev (.tmp 7) = _ at e7
      have HK := Lib.hid hK
      have HC := Lib.hid hC
      clear hb hr hK hf hC
      unfold Run
      simp [execOp, Upon, go_sem, *]
      exact HK.out _ _ (.inl (Below.refl _ _)) rfl
    · intro ev w' hC hc hf hb hr K hK
      have e8 := hr 3 _ rfl (by kernel_rfl)
      change ev (.tmp 8) = _ at e8
      have HK := Lib.hid hK
      have HC := Lib.hid hC
      clear hb hr hK hf hC
      unfold Run
      simp [execOp, Upon, go_sem, *]
      exact HK.out _ _ (.inl (Below.refl _ _)) rfl
    · intro ev w' hC hc hf hb hr K hK
      have e0 : ev (.tmp 0) = _ := hb 0 (by kernel_rfl)
      have HK := Lib.hid hK
      have HC := Lib.hid hC
      clear hb hr hK hf hC
      unfold Run
      simp [execOp, Upon, go_sem, *]
      exact HK.out _ _ (.inl (Below.refl _ _)) rfl
    · intro ev w' hC hc hf hb hr K hK
      have e1 : ev (.tmp 1) = _ := hb 1 (by kernel_rfl)
      have HK := Lib.hid hK
      have HC := Lib.hid hC
      clear hb hr hK hf hC
      unfold Run
      simp [execOp, Upon, go_sem, *]
      exact HK.out _ _ (.inl (Below.refl _ _)) rfl
    · intro ev w' hC hc hf hb hr K hK
      have e11 := hr 6 _ rfl (by kernel_rfl)
      change ev (.tmp 11) = _ at e11
      have HK := Lib.hid hK
      have HC := Lib.hid hC
      clear hb hr hK hf hC
      unfold Run
      simp [execOp, Upon, go_sem, *]
      exact HK.out _ _ (.inl (Below.refl _ _)) rfl
    · intro ev w' hC hc hf hb hr K hK
      have e10 := hr 5 _ rfl (by kernel_rfl)
      have e12 := hr 7 _ rfl (by kernel_rfl)
      change ev (.tmp 10) = _ at e10
      change ev (.tmp 12) = _ at e12
      have HK := Lib.hid hK
      have HC := Lib.hid hC
      clear hb hr hK hf hC
      unfold Run
      simp [execOp, Upon, go_sem, *]
      exact HK.out _ _ (.inl (Below.refl _ _)) rfl
    · intro ev w' hC hc hf hb hr K hK
      have e13 := hr 8 _ rfl (by kernel_rfl)
      change ev (.tmp 13) = _ at e13
      have HK := Lib.hid hK
      have HC := Lib.hid hC
      clear hb hr hK hf hC
      unfold Run
      simp [execOp, Upon, go_sem, *]
      exact HK.out _ _ (.inl (Below.refl _ _)) rfl
    · intro ev w' hC hc hf hb hr K hK
      have e9 := hr 4 _ rfl (by kernel_rfl)
      have e14 := hr 9 _ rfl (by kernel_rfl)
      change ev (.tmp 9) = _ at e9
      change ev (.tmp 14) = _ at e14
      have HK := Lib.hid hK
      have HC := Lib.hid hC
      clear hb hr hK hf hC
      unfold Run
      simp [execOp, Upon, go_sem, *]
      exact HK.out _ _ (.inl (Below.refl _ _)) rfl
    · intro ev w' hC hc hf hb hr K hK
      have e15 := hr 10 _ rfl (by kernel_rfl)
      change ev (.tmp 15) = _ at e15
      have HK := Lib.hid hK
      have HC := Lib.hid hC
      clear hb hr hK hf hC
      unfold Run
      simp [execOp, Upon, go_sem, *]
      exact HK.out _ _ (.inl (Below.refl _ _)) rfl
  · exact rl_mono ⟨is_mono _, is_mono _, is_mono _, is_mono _, is_mono _, is_mono _, is_mono _, is_mono _, is_mono _, is_mono _, is_mono _, is_mono _, trivial⟩
  intro us wr hG hH
  obtain ⟨-, -, -, -, -, -, -, -, -, -, -, h11, -⟩ := hH
  simp only [fillM]
  change us 4 = _ at h11
  rw [h11]
  clear h11
  generalize us 5 = v5
  generalize us 6 = v6
  generalize us 7 = v7
  generalize us 8 = v8
  generalize us 9 = v9
  generalize us 10 = v10
  generalize us 11 = v11
  generalize us 12 = v12
  generalize us 13 = v13
  generalize us 14 = v14
  generalize us 15 = v15
  clear e1 i0 i1 i2 i3 i4 hx2 hy2
  go_wp2
  go_ret
  exact ⟨by rw [HN.out, ← wrap_num]; rfl, hG.belowF⟩

/-- a piece of a block as a slice's cells -/
theorem rd_mid2 {w : World} {b : Nat} {cs : Array Value} {t : TypeId} {fr : Nat × Nat} {xs : List Value} (hg : w.heap[b]? = some (.cells cs t fr)) (h : ∀ (k : Nat) u, xs[k]? = some u → cs[k]? = some u) :
    Rd w b (b + 1) (some ⟨b, 0, none⟩) xs := by
  intro k u hu
  refine ⟨_, rfl, Nat.le_refl _, Nat.lt_succ_self _, ?_⟩
  have e : ((⟨b, 0, none⟩ : Addr).add k) = ⟨b, k, none⟩ := by
    unfold Addr.add
    by_cases hk : k = 0 <;> simp [hk]
  rw [e, cell_of_row _ _ _ cs t fr hg]
  exact h k u hu
theorem run_two (w : World) (g : Nat) (a b : UInt8) (h : w.heap[g]? = some (.cells #[.int .u8 (a.toNat : Int), .int .u8 (b.toNat : Int)] 5 (0, 0))) : (convert 24 9 (.slice (some ⟨g, 0, none⟩) 2 2)).run Try.prog w = .ok (.string ⟨#[a, b]⟩) w :=
  run_text (P := Try.prog) (l := [a, b]) _ 24 9 5 2 Try.underlying24 Try.underlying5 Try.underlying9 (rd_mid2 h (fun k u hu => by simpa [cells] using hu))
theorem run_four (w : World) (x0 x1 x2 x3 : UInt8) : (convert 24 9 (.slice (some ⟨w.heap.size, 0, none⟩) 4 4)).run Try.prog (w.alloc (.cells #[.int .u8 (x0.toNat : Int), .int .u8 (x1.toNat : Int), .int .u8 (x2.toNat : Int), .int .u8 (x3.toNat : Int)] 5)) = .ok (.string ⟨#[x0, x1, x2, x3]⟩) (w.alloc (.cells #[.int .u8 (x0.toNat : Int), .int .u8 (x1.toNat : Int), .int .u8 (x2.toNat : Int), .int .u8 (x3.toNat : Int)] 5)) :=
  run_text (P := Try.prog) (l := [x0, x1, x2, x3]) _ 24 9 5 4 Try.underlying24 Try.underlying5 Try.underlying9 (rd_new w (cells [x0, x1, x2, x3]) 5 (0, 0))
set_option maxRecDepth 100000 in
theorem refword_any (n : Nat) (w : World) (hn : n < 65536) : Calls Try.prog 33 #[.int .i64 n] w fun e w' => e = .returned (txt (two n)) ∧ Below w.heap.size w w' := by
  have h1 := small_hi n hn
  have h2 := byte_lo n
  have HT : Hid (two n = [UInt8.ofNat (n / 256), UInt8.ofNat n]) := rfl
  generalize UInt8.ofNat (n / 256) = a at h1 HT
  generalize UInt8.ofNat n = b at h2 HT
  have hr := run_two (w.alloc (.cells #[.int .u8 (a.toNat : Int), .int .u8 (b.toNat : Int)] 5)) w.heap.size a b (heap_alloc_new w _)
  go_enter Try.func33, Try.ntmps33
  go_wp2
  go_ret
  exact ⟨by rw [HT.out]; rfl, (Below.refl _ _).alloc (Nat.le_refl _) _⟩
set_option maxRecDepth 100000 in
set_option maxHeartbeats 400000 in
theorem host_lit (x0 x1 x2 x3 : UInt8) (w : World) :
    Calls Try.prog 69 #[.agg #[.int .u8 (x0.toNat : Int), .int .u8 (x1.toNat : Int), .int .u8 (x2.toNat : Int), .int .u8 (x3.toNat : Int)]] w fun e w' => e = .returned (txt [x0, x1, x2, x3]) ∧ Below w.heap.size w w' := by
  have HB := Lib.hid ((Below.refl w.heap.size w).alloc (Nat.le_refl _) (.cells #[.int .u8 (x0.toNat : Int), .int .u8 (x1.toNat : Int), .int .u8 (x2.toNat : Int), .int .u8 (x3.toNat : Int)] 28))
  have hc := run_four (w.alloc (.cells #[.int .u8 (x0.toNat : Int), .int .u8 (x1.toNat : Int), .int .u8 (x2.toNat : Int), .int .u8 (x3.toNat : Int)] 28)) x0 x1 x2 x3
  rw [World.size_alloc] at hc
  go_enter Try.func69, Try.ntmps69
  go_wp2
  go_ret
  exact ⟨rfl, HB.out.alloc HB.out.size _⟩

set_option maxRecDepth 100000 in
/-- bytes.Clone of what is not nil -/
theorem clone_some (ad : Addr) (l : List UInt8) (c lo hi : Nat) (w : World) (h : Rd w lo hi (some ad) (cells l)) (hhi : hi ≤ w.heap.size) (hm : l.length ≤ 1000000000) :
    Calls Try.prog 40 #[.slice (some ad) l.length c] w (FreshPost w l) := by
  obtain ⟨i0, hi0, hz0, hz1, hz2⟩ := info_parts info_u8
  have HR := Lib.hid h
  have HH := Lib.hid hhi
  obtain ⟨n, hn⟩ : ∃ n, l.length = n := ⟨_, rfl⟩
  rw [hn] at hm ⊢
  have HN := Lib.hid hn
  clear h hhi hn
  have hnil := Lib.run_eql_slice_nil (P := Try.prog) w 24 5 (some ad) n c 0 0 Try.underlying24
  go_enter Try.func40, Try.ntmps40
  go_wp2_with (at_builtin; refine wpList_append_rd rfl _ _ 24 rfl w.heap.size 5 i0 (.int .u8 0) 1 Try.underlying24 hi0 hz0 hz1 hz2 rfl _ _ _ rfl (own_lit _ [] _ _ w.heap.size 0 (by simp) (by simp) (by unfold maxLen; omega) rfl) (some ad) n c (cells l) rfl (fun h => by cases h) (by rw [cells_length]; exact HN.out) ((HR.out.alloc HH.out _)) (cells_one l) (by unfold maxLen; omega) (by omega) (by simp) ?_)
  intro v2 w2 hown2 hgrow2
  have HB : Hid (Below w.heap.size w w2) := ((Below.refl w.heap.size w).alloc (Nat.le_refl _) _).grown hgrow2 (by simp) fun g hg => by simp [Value.ownBlock] at hg; omega
  obtain ⟨A5, c5, hv⟩ := own_form hown2
  rw [hv] at hown2 ⊢
  have HC := Lib.hid (own_cap hown2)
  have HA : Hid (A5 = none → c5 = 0) := by
    show _ → _
    rintro rfl
    rcases hown2.2 with ⟨he, _⟩ | ⟨g, cap, cur, he, _⟩
    · injection he
    · cases he
  have HO := Lib.hid (Rd.own hown2)
  clear hown2 hgrow2 hv
  go_wp2
  go_ret
  exact ⟨_, rfl, ⟨A5, c5, by rw [HN.out]; rfl, HO.out, HA.out, by rw [HN.out]; exact HC.out.1, HC.out.2⟩, HB.out⟩


/-- a packet's cells, the data as v -/
def pkC (p : Pk) (v : Value) : List Value := .int .u16 p.id :: .bool p.more :: .int .i64 p.off :: .int .u8 (p.ttl.toNat : Int) :: .int .u8 (p.proto.toNat : Int) :: (cells p.src ++ cells p.dst ++ [v])
/-- cells that read as a packet -/
def PkV (w : World) (lo hi : Nat) (cs : Array Value) (p : Pk) : Prop :=
  ∃ A c, cs = (pkC p (.slice A p.data.length c)).toArray ∧ p.ok ∧ (-9223372036854775808 ≤ p.off ∧ p.off ≤ 9223372036854775807) ∧ Rd w lo hi A (cells p.data) ∧ p.data.length ≤ c ∧ c ≤ maxLen ∧ (A = none → c = 0)
theorem PkV.below {w w' : World} {lo hi B : Nat} {cs : Array Value} {p : Pk} (h : PkV w lo hi cs p) (hb : Below B w w') (hB : hi ≤ B) : PkV w' lo hi cs p := by
  obtain ⟨A, c, e, h1, h0, h2, h3⟩ := h
  exact ⟨A, c, e, h1, h0, h2.below hb hB, h3⟩
theorem PkV.wide {w : World} {lo hi lo' hi' : Nat} {cs : Array Value} {p : Pk} (h : PkV w lo hi cs p) (h1 : lo' ≤ lo) (h2 : hi ≤ hi') : PkV w lo' hi' cs p := by
  obtain ⟨A, c, e, h3, h0, h4, h5⟩ := h
  exact ⟨A, c, e, h3, h0, h4.wide h1 h2, h5⟩
theorem pkC_size {p : Pk} (h : p.ok) (v : Value) : (pkC p v).toArray.size = 14 := by
  obtain ⟨_, h1, h2⟩ := h
  simp [pkC, cells_length, h1, h2]
theorem PkV.size {w : World} {lo hi : Nat} {cs : Array Value} {p : Pk} (h : PkV w lo hi cs p) : cs.size = 14 := by
  obtain ⟨A, c, rfl, h1, _⟩ := h
  exact pkC_size h1 _
theorem pkC_13 {p : Pk} (h : p.ok) (v : Value) : (pkC p v)[13]? = some v := by
  obtain ⟨_, h1, h2⟩ := h
  simp [pkC, cells_length, h1, h2]
theorem pkC_src (p : Pk) (v : Value) : ∀ (k : Nat) u, (cells p.src)[k]? = some u → (pkC p v)[5 + k]? = some u := by
  intro k u hu
  have hk := (List.getElem?_eq_some_iff.1 hu).1
  rw [show 5 + k = k + 1 + 1 + 1 + 1 + 1 from by omega]
  simp only [pkC, List.getElem?_cons_succ]
  rw [List.append_assoc, List.getElem?_append_left hk]
  exact hu
theorem pkC_dst {p : Pk} (h : p.ok) (v : Value) : ∀ (k : Nat) u, (cells p.dst)[k]? = some u → (pkC p v)[9 + k]? = some u := by
  intro k u hu
  have hk := (List.getElem?_eq_some_iff.1 hu).1
  have hs : (cells p.src).length = 4 := by rw [cells_length]; exact h.2.1
  rw [show 9 + k = (4 + k) + 1 + 1 + 1 + 1 + 1 from by omega]
  simp only [pkC, List.getElem?_cons_succ]
  rw [List.append_assoc, List.getElem?_append_right (by omega), hs, show 4 + k - 4 = k from by omega, List.getElem?_append_left hk]
  exact hu
theorem zero_pkV (w : World) (lo hi : Nat) : PkV w lo hi #[.int .u16 0, .bool false, .int .i64 0, .int .u8 0, .int .u8 0, .int .u8 0, .int .u8 0, .int .u8 0, .int .u8 0, .int .u8 0, .int .u8 0, .int .u8 0, .int .u8 0, .slice none 0 0] Pk.zero :=
  ⟨none, 0, rfl, ⟨by decide, rfl, rfl⟩, ⟨by decide, by decide⟩, Rd.nil, Nat.le_refl _, Nat.zero_le _, fun _ => rfl⟩

/-- a slice of slices of bytes -/
def Lists (ps : List (List UInt8)) : Pred := fun v w => ∃ g vs, v = .slice (some ⟨g, 0, none⟩) ps.length ps.length ∧ Rd w 0 w.heap.size (some ⟨g, 0, none⟩) vs ∧ Bits w 0 w.heap.size vs ps
/-- bytes that the call owns -/
def Owned (B : Nat) (l : List UInt8) : Pred := fun v w => ∃ A c, v = .slice A l.length c ∧ OwnB w B (.slice A l.length c) l
theorem Bits.below {w w' : World} {lo hi B : Nat} {vs : List Value} {ps : List (List UInt8)} (h : Bits w lo hi vs ps) (hb : Below B w w') (hB : hi ≤ B) : Bits w' lo hi vs ps :=
  ⟨h.1, fun i p hp => by
    obtain ⟨A, c, h1, h2, h3⟩ := h.2 i p hp
    exact ⟨A, c, h1, h2.below hb hB, h3⟩⟩
theorem Bits.wide {w : World} {lo hi lo' hi' : Nat} {vs : List Value} {ps : List (List UInt8)} (h : Bits w lo hi vs ps) (hl : lo' ≤ lo) (hh : hi ≤ hi') : Bits w lo' hi' vs ps :=
  ⟨h.1, fun i p hp => by
    obtain ⟨A, c, h1, h2, h3⟩ := h.2 i p hp
    exact ⟨A, c, h1, h2.wide hl hh, h3⟩⟩
theorem fresh_mono (B : Nat) (l : List UInt8) : Mono (Fresh B l) := fun _ _ _ hb h => h.grow hb
theorem lists_mono (ps : List (List UInt8)) : Mono (Lists ps) := fun _ _ _ hb h => by
  obtain ⟨g, vs, e, h1, h2⟩ := h
  exact ⟨g, vs, e, (h1.below hb (Nat.le_refl _)).wide (Nat.le_refl _) hb.size, Bits.wide (Bits.below h2 hb (Nat.le_refl _)) (Nat.le_refl _) hb.size⟩
theorem owned_mono (B : Nat) (l : List UInt8) : Mono (Owned B l) := fun _ _ _ hb h => by
  obtain ⟨A, c, e, h1⟩ := h
  exact ⟨A, c, e, own_below h1 hb (Nat.le_refl _)⟩
/-- a part whose bytes are fresh, as one of a row of rows, the row in a new block -/
theorem fresh_bits {w : World} {B : Nat} {l : List UInt8} {A : Option Addr} {c : Nat} {vs : List Value} {ps : List (List UInt8)} (h1 : Rd w B w.heap.size A (cells l)) (h2 : A = none → c = 0) (h : Bits w 0 w.heap.size vs ps) : Bits w 0 w.heap.size (.slice A l.length c :: vs) (l :: ps) :=
  .cons (h1.wide (Nat.zero_le _) (Nat.le_refl _)) h2 h
theorem lists_new {w : World} {vs : List Value} {ps : List (List UInt8)} (h : Bits w 0 w.heap.size vs ps) (t : TypeId) : Lists ps (.slice (some ⟨w.heap.size, 0, none⟩) ps.length ps.length) (w.alloc (.cells vs.toArray t)) :=
  ⟨w.heap.size, vs, rfl, (rd_new w vs t (0, 0)).wide (Nat.zero_le _) (by simp), Bits.wide (h.alloc (Nat.le_refl _) _) (Nat.le_refl _) (by simp)⟩

/-- a piece of a block as a slice's cells -/
theorem rd_mid {w : World} {b o : Nat} {cs : Array Value} {t : TypeId} {fr : Nat × Nat} {xs : List Value} (hg : w.heap[b]? = some (.cells cs t fr)) (h : ∀ (k : Nat) u, xs[k]? = some u → cs[o + k]? = some u) :
    Rd w b (b + 1) (some ⟨b, o, none⟩) xs := by
  intro k u hu
  refine ⟨_, rfl, Nat.le_refl _, Nat.lt_succ_self _, ?_⟩
  have e : ((⟨b, o, none⟩ : Addr).add k) = ⟨b, o + k, none⟩ := by
    unfold Addr.add
    by_cases hk : k = 0 <;> simp [hk]
  rw [e, cell_of_row _ _ _ cs t fr hg]
  exact h k u hu
theorem row_lt {w : World} {b : Nat} {o : Obj} (h : w.heap[b]? = some o) : b < w.heap.size := (Array.getElem?_eq_some_iff.1 h).1
theorem old_alloc {w : World} {b : Nat} {o : Obj} (h : w.heap[b]? = some o) (o2 : Obj) : (w.alloc o2).heap[b]? = some o := (Below.heap_alloc _ _ _ (row_lt h)).trans h

set_option maxRecDepth 100000 in
theorem placed_any (cs : Array Value) (p : Pk) (A : Option Addr) (c : Nat) (w : World) (he : cs = (pkC p (.slice A p.data.length c)).toArray) (hok : p.ok) (hoff : -9223372036854775808 ≤ p.off ∧ p.off ≤ 9223372036854775807) (hm : p.data.length ≤ maxLen) :
    Calls Try.prog 47 #[.agg cs] w fun e w' => e = .returned (.bool (placedB p)) ∧ Below w.heap.size w w' := by
  have h1 : cs[1]? = some (.bool p.more) := by subst he; rfl
  have h2 : cs[2]? = some (.int .i64 p.off) := by subst he; rfl
  have h13 : cs[13]? = some (.slice A p.data.length c) := by subst he; rw [List.getElem?_toArray]; exact pkC_13 hok _
  have HB := Lib.hid ((Below.refl w.heap.size w).alloc (Nat.le_refl _) (.cells cs 60))
  have HP := Lib.hid (placed_iff p)
  obtain ⟨id, more, off, ttl, proto, src, dst, data⟩ := p
  simp only at h1 h2 h13 HP hoff hm
  unfold maxLen at hm
  generalize data.length = n at *
  obtain ⟨r, hr⟩ : ∃ r, placedB ⟨id, more, off, ttl, proto, src, dst, data⟩ = r := ⟨_, rfl⟩
  rw [hr] at HP ⊢
  clear he hok hr
  by_cases c1 : off < 0
  · have HF : Hid (r = false) := by
      show r = false
      cases r
      · rfl
      · have := (HP.out.1 rfl).1.1; omega
    go_enter Try.func47, Try.ntmps47
    go_wp2
    go_ret
    exact ⟨by rw [HF.out]; rfl, HB.out⟩
  · by_cases c2 : 65528 < off
    · have HF : Hid (r = false) := by
        show r = false
        cases r
        · rfl
        · have := (HP.out.1 rfl).1.2.1; omega
      have c3 : 0 ≤ off := by omega
      clear c1
      go_enter Try.func47, Try.ntmps47
      go_wp2
      go_ret
      exact ⟨by rw [HF.out]; rfl, HB.out⟩
    · have c3 : 0 ≤ off := by omega
      have c4 : off ≤ 65528 := by omega
      clear c1 c2
      by_cases c5 : off % 8 = 0
      · have c6 : (off % 8 != 0) = false := bneF c5
        have C5 := Lib.hid c5
        clear c5
        cases more
        · have HF : Hid (r = true) := HP.out.2 ⟨⟨c3, c4, C5.out⟩, fun h => by cases h⟩
          go_enter Try.func47, Try.ntmps47
          go_wp2
          go_ret
          exact ⟨by rw [HF.out]; rfl, HB.out⟩
        · by_cases c7 : n % 8 = 0
          · have HF : Hid (r = true) := HP.out.2 ⟨⟨c3, c4, C5.out⟩, fun _ => c7⟩
            have c8 : ((n : Int) % 8 == 0) = true := beqT (by omega)
            clear c7
            go_enter Try.func47, Try.ntmps47
            go_wp2
            go_ret
            exact ⟨by rw [HF.out]; rfl, HB.out⟩
          · have HF : Hid (r = false) := by
              show r = false
              cases r
              · rfl
              · exact absurd ((HP.out.1 rfl).2 rfl) c7
            have c8 : ((n : Int) % 8 == 0) = false := beqF (by omega)
            clear c7
            go_enter Try.func47, Try.ntmps47
            go_wp2
            go_ret
            exact ⟨by rw [HF.out]; rfl, HB.out⟩
      · have c6 : (off % 8 != 0) = true := bneT c5
        have HF : Hid (r = false) := by
          show r = false
          cases r
          · rfl
          · exact absurd (HP.out.1 rfl).1.2.2 c5
        clear c5
        go_enter Try.func47, Try.ntmps47
        go_wp2
        go_ret
        exact ⟨by rw [HF.out]; rfl, HB.out⟩
end Go.Proofs.Ytjgdmkmfnkaoaaa.V
