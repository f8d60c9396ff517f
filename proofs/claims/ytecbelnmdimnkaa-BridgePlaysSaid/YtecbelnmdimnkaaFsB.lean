/-
  Frames among a law's arguments, and whether they are few enough. Every slice of frames that is read. No condition.
-/
import Derived.Test.YtecbelnmdimnkaaByB
import Derived.Test.YtecbelnmdimnkaaShape
import Derived.Lib.SlBytesConst
namespace Go.Proofs.Ytecbelnmdimnkaa
open Go.RowKit

/-- the i-th frame, read behind head A in blocks below hi -/
def FmAt (w : World) (hi : Nat) (A : Option Addr) (i : Nat) (f : Fm) : Prop :=
  ∃ ad A' c, A = some ad ∧ ad.block < hi ∧ (∀ (j : Nat) u, (fmA f (.slice A' f.raw.length c))[j]? = some u → w.cell? ((ad.add (i * 4)).add j) = some u) ∧ Rd w 0 hi A' (cells f.raw) ∧ (A' = none → c = 0) ∧ f.raw.length ≤ c ∧ c ≤ 140737488351232 ∧ I64 f.port
def FmsT (w : World) (hi : Nat) (A : Option Addr) (l : List Fm) : Prop := ∀ i f, l[i]? = some f → FmAt w hi A i f
theorem FmAt.below {w w' : World} {hi B i : Nat} {A : Option Addr} {f : Fm} (h : FmAt w hi A i f) (hb : Below B w w') (hB : hi ≤ B) : FmAt w' hi A i f := by
  obtain ⟨ad, A', c, e, h0, h1, h2, h3⟩ := h
  exact ⟨ad, A', c, e, h0, fun j u hu => (hb.cell (p := (ad.add (i * 4)).add j) (by rw [blk_add, blk_add]; omega)).trans (h1 j u hu), h2.below hb hB, h3⟩
theorem FmsT.below {w w' : World} {hi B : Nat} {A : Option Addr} {l : List Fm} (h : FmsT w hi A l) (hb : Below B w w') (hB : hi ≤ B) : FmsT w' hi A l := fun i f hi => (h i f hi).below hb hB
abbrev ShFm : Sh := .cat (.num .i64) (.cat (.num .u8) (.cat (.num .u8) (.cat (.sl (.num .u8)) .non)))
theorem i64_of {z : Int} (h : (Lit.int .i64 z).wf = true) : I64 z := by
  simp [Lit.wf, IntKind.min, IntKind.max, IntKind.signed, IntKind.bits] at h
  unfold I64
  omega
theorem u8_of {z : Int} (h : (Lit.int .u8 z).wf = true) : ∃ x : UInt8, z = (x.toNat : Int) := by
  simp [Lit.wf, IntKind.min, IntKind.max, IntKind.signed, IntKind.bits] at h
  refine ⟨UInt8.ofNat z.toNat, ?_⟩
  rw [UInt8.toNat_ofNat']
  omega
theorem fms_of {w : World} {A : Option Addr} {len cap : Nat} (h : (Sh.sl ShFm).ok w [.slice A len cap]) : ∃ l : List Fm, l.length = len ∧ len ≤ cap ∧ cap ≤ 140737488351232 ∧ FmsT w w.heap.size A l := by
  rcases h with h | ⟨ad, len', cap', h, h1, h2, h3⟩
  · simp at h
    obtain ⟨rfl, rfl, rfl⟩ := h
    exact ⟨[], rfl, Nat.le_refl _, Nat.zero_le _, fun i o hi => by simp at hi⟩
  · simp at h
    obtain ⟨rfl, rfl, rfl⟩ := h
    have h4 : ∀ i, i < len → ∃ o, FmAt w w.heap.size (some ad) i o := fun i hi => by
      obtain ⟨c, _, hc, c1, c2, rfl, ⟨k, rfl, hk⟩, c3, c4, rfl, ⟨d, rfl, hd⟩, c5, c6, rfl, ⟨s, rfl, hs⟩, c7, c8, rfl, h7, rfl⟩ := h3 i hi
      obtain ⟨A', m, cc, rfl⟩ : ∃ A' m cc, c7 = [.slice A' m cc] := by
        rcases h7 with rfl | ⟨ad, len, cap, rfl, _⟩
        · exact ⟨none, 0, 0, rfl⟩
        · exact ⟨some ad, len, cap, rfl⟩
      obtain ⟨raw, hraw, hc1, hc2, hr, hA⟩ := sl_bytes h7
      subst hraw
      obtain ⟨d, rfl⟩ := u8_of hd
      obtain ⟨s, rfl⟩ := u8_of hs
      have hz := hc 0 (.int .i64 k) rfl
      have hlt := cell_lt hz
      rw [blk_add] at hlt
      refine ⟨⟨k, d, s, raw⟩, ad, A', cc, rfl, hlt, fun j u hu => ?_, hr, hA, hc1, hc2, i64_of hk⟩
      rw [add_twice]
      exact hc j u (by rw [← Array.getElem?_toList] at hu; exact hu)
    have h5 : ∀ n, n ≤ len → ∃ l : List Fm, l.length = n ∧ FmsT w w.heap.size (some ad) l := by
      intro n
      induction n with
      | zero => intro _; exact ⟨[], rfl, fun i o hi => by simp at hi⟩
      | succ n ih =>
        intro hn
        obtain ⟨l, hl, hc⟩ := ih (by omega)
        obtain ⟨o, ho⟩ := h4 n (by omega)
        refine ⟨l ++ [o], by simp [hl], fun i y hy => ?_⟩
        rcases Nat.lt_or_ge i l.length with hi | hi
        · rw [List.getElem?_append_left hi] at hy
          exact hc i y hy
        · rw [List.getElem?_append_right hi] at hy
          have hi0 : i - l.length = 0 := by
            have := (List.getElem?_eq_some_iff.1 hy).1
            simp at this
            omega
          rw [hi0] at hy
          simp at hy
          subst hy
          rw [show i = n from by omega]
          exact ho
    obtain ⟨l, hl, hc⟩ := h5 len (Nat.le_refl _)
    exact ⟨l, hl, h1, h2, hc⟩

def fitsB (l : List Fm) : Bool := l.all (fun o => decide (o.raw.length ≤ 300)) && decide (l.length ≤ 100)
theorem fits_of {l : List Fm} (h : fitsB l = true) : l.length ≤ 100 ∧ ∀ f ∈ l, f.raw.length ≤ 300 := by
  unfold fitsB at h
  rw [Bool.and_eq_true, List.all_eq_true] at h
  exact ⟨of_decide_eq_true h.2, fun f hf => of_decide_eq_true (h.1 f hf)⟩
set_option maxRecDepth 100000 in
set_option maxHeartbeats 1000000 in
theorem fits_any (A : Option Addr) (n c hi : Nat) (l : List Fm) (w : World) (h : FmsT w hi A l) (hhi : hi ≤ w.heap.size) (hl : l.length = n) (hn : n ≤ 140737488351232) :
    Calls Try.prog 7 #[.slice A n c] w fun e w' => e = .returned (.bool (fitsB l)) ∧ Below w.heap.size w w' := by
  have HO := Lib.hid h
  have HHI := Lib.hid hhi
  have HL := Lib.hid hl
  clear h hhi hl
  go_enter Try.func7, Try.ntmps7
  go_wp2
  go_loopw [7] (fun t7 wr => ∃ k : Nat, k ≤ n ∧ t7 = .int .i64 (k : Int) ∧ Hid (∀ i o, i < k → l[i]? = some o → o.raw.length ≤ 300) ∧ Hid (Below w.heap.size w wr)) (fun t7 _ => n - (intOf t7).toNat)
  case atStart => exact ⟨0, Nat.zero_le _, rfl, Lib.hid (fun i o hi => by omega), Lib.hid (Below.refl _ _)⟩
  case round =>
    obtain ⟨k, hk, rfl, HNO, HBEL⟩ := hrel
    by_cases hlt : k < n
    · obtain ⟨o, ho⟩ : ∃ o, l[k]? = some o := ⟨_, List.getElem?_eq_getElem (by rw [HL.out]; exact hlt)⟩
      obtain ⟨ad, A', cc, rfl, -, hcs, -, -, hdc, hcc, -⟩ := (HO.out k o ho).below HBEL.out HHI.out
      have HEL := Lib.hid hcs
      have HOO := Lib.hid ho
      have HB2 : Hid (Below w.heap.size w (wr.alloc (.cells (fmA o (.slice A' o.raw.length cc)) 35))) := HBEL.out.alloc HBEL.out.size _
      unfold fmA at HEL HB2
      clear hcs ho
      by_cases q : o.raw.length ≤ 300
      · have HN2 : Hid (∀ i o, i < k + 1 → l[i]? = some o → o.raw.length ≤ 300) := fun i o' hi ho' => by
          by_cases hik : i < k
          · exact HNO.out i o' hik ho'
          · obtain rfl : i = k := by omega
            rw [HOO.out] at ho'
            injection ho' with ho'
            rw [← ho']
            exact q
        go_wp2_with (refine wpList_load_atA rfl 35 _ rfl (ad.add (k * 4)) rfl _ _ HEL.out Try.underlying35 rfl (by kernel_rfl) ?_)
        go_roundw
        case rel => exact ⟨k + 1, by omega, by go_num, HN2, HB2⟩
        case measure => simp [intOf]; omega
      · have HV : Hid (fitsB l = false) := by
          show _ = _
          unfold fitsB
          rw [List.all_eq_false.2 ⟨o, List.mem_of_getElem? HOO.out, by simpa using q⟩, Bool.false_and]
        go_wp2_with (refine wpList_load_atA rfl 35 _ rfl (ad.add (k * 4)) rfl _ _ HEL.out Try.underlying35 rfl (by kernel_rfl) ?_)
        go_ret
        exact ⟨by rw [HV.out]; rfl, HB2.out⟩
    · obtain rfl : k = n := by omega
      have HV : Hid (fitsB l = decide ((k : Int) ≤ 100)) := by
        show _ = _
        unfold fitsB
        rw [List.all_eq_true.2 fun o ho => by
          obtain ⟨i, hi, rfl⟩ := List.mem_iff_getElem.1 ho
          exact decide_eq_true (HNO.out i _ (by rw [← HL.out]; exact hi) (List.getElem?_eq_getElem hi)), Bool.true_and, HL.out]
        congr 1
        apply propext
        omega
      go_wp2
      go_ret
      exact ⟨by rw [HV.out]; rfl, HBEL.out⟩
end Go.Proofs.Ytecbelnmdimnkaa
