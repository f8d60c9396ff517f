/-
  The document's heap in memory; whether there is room in it, whether bytes lie in a block of it. No condition.
-/
import Derived.Test.YtagajijjcjfopaaZeroL
namespace Go.Proofs.Ytagajijjcjfopaa
open Go.RowKit

theorem info_rb : (Try.prog.info? 76).map (fun i => (i.zero, i.size, i.bytes)) = some (some (.agg #[.int .i64 0, .int .i64 0]), 2, 16) := by kernel_rfl
/-- where a block begins, and ends -/
def rbC (b : Bk) : List Value := [.int .i64 (b.1 : Int), .int .i64 ((b.1 : Int) + (b.2 : Int))]
def rbs (L : List Bk) : List Value := L.flatMap rbC
theorem rbs_nil : rbs [] = [] := rfl
theorem rbs_cons (b : Bk) (L : List Bk) : rbs (b :: L) = rbC b ++ rbs L := rfl
theorem rbs_append (L M : List Bk) : rbs (L ++ M) = rbs L ++ rbs M := by simp [rbs]
theorem rbs_length (L : List Bk) : (rbs L).length = L.length * 2 := by
  induction L with
  | nil => rfl
  | cons b L ih => rw [rbs_cons, List.length_append, ih, List.length_cons]; simp only [rbC, List.length_cons, List.length_nil]; omega
theorem rbs_drop (L : List Bk) (i : Nat) : (rbs L).drop (i * 2) = rbs (L.drop i) := by
  induction L generalizing i with
  | nil => simp [rbs]
  | cons b L ih => cases i with
    | zero => simp
    | succ i => rw [rbs_cons, show (i + 1) * 2 = (rbC b).length + i * 2 from by simp [rbC]; omega, List.drop_append, Nat.add_sub_cancel_left, ih]; simp
theorem rbs_take (L : List Bk) (i : Nat) : (rbs L).take (i * 2) = rbs (L.take i) := by
  induction L generalizing i with
  | nil => simp [rbs]
  | cons b L ih => cases i with
    | zero => simp [rbs]
    | succ i => rw [rbs_cons, show (i + 1) * 2 = (rbC b).length + i * 2 from by simp [rbC]; omega, List.take_append, Nat.add_sub_cancel_left, ih, List.take_succ_cons, rbs_cons, List.take_of_length_le (Nat.le_add_right _ _)]
theorem rbs_at (L : List Bk) (i : Nat) (b : Bk) (h : L[i]? = some b) : ((rbs L).drop (i * 2)).take 2 = rbC b := by
  rw [rbs_drop, List.drop_eq_getElem?_toList_append, h]
  rfl
theorem rbs_one (L : List Bk) : ∀ u ∈ rbs L, u.oneCell' = true := by
  intro u hu
  simp only [rbs, List.mem_flatMap] at hu
  obtain ⟨b, _, hb⟩ := hu
  simp [rbC] at hb
  rcases hb with rfl | rfl <;> rfl
def RfV (B : List UInt8) (L : List Bk) (D : List Bool) (w : World) (v1 v2 v3 : Value) : Prop :=
  v1 = .string ⟨B.toArray⟩ ∧ w.ownsRow 0 76 2 v2 L.length (rbs L) ∧ w.ownsRow 0 4 1 v3 D.length (tfs D)
def Rf (B : List UInt8) (L : List Bk) (D : List Bool) : Pred := fun v w => ∃ v1 v2 v3, v = .agg #[v1, v2, v3] ∧ RfV B L D w v1 v2 v3
section
variable {B : List UInt8} {L : List Bk} {D : List Bool} {w w' : World} {v v1 v2 v3 : Value}
theorem RfV.below {b : Nat} (h : RfV B L D w v1 v2 v3) (hb : Below b w w') (hB : w.heap.size ≤ b := by first | exact Nat.le_refl _ | simp) : RfV B L D w' v1 v2 v3 :=
  ⟨h.1, ownk_below h.2.1 hb hB, ownk_below h.2.2 hb hB⟩
theorem RfV.alloc (h : RfV B L D w v1 v2 v3) (o : Obj) : RfV B L D (w.alloc o) v1 v2 v3 := h.below ((Below.refl _ _).alloc (Nat.le_refl _) o)
theorem RfV.shut (h : RfV B L D w v1 v2 v3) : Rf B L D (.agg #[v1, v2, v3]) w := ⟨v1, v2, v3, rfl, h⟩
theorem Rf.below {b : Nat} (h : Rf B L D v w) (hb : Below b w w') (hB : w.heap.size ≤ b := by first | exact Nat.le_refl _ | simp) : Rf B L D v w' := by
  obtain ⟨v1, v2, v3, e, h⟩ := h
  exact ⟨v1, v2, v3, e, h.below hb hB⟩
theorem Rf.alloc (h : Rf B L D v w) (o : Obj) : Rf B L D v (w.alloc o) := h.below ((Below.refl _ _).alloc (Nat.le_refl _) o)
theorem rf_mono (B : List UInt8) (L : List Bk) (D : List Bool) : Mono (Rf B L D) := fun _ _ _ hb ⟨v1, v2, v3, e, h⟩ => ⟨v1, v2, v3, e, h.below hb⟩
theorem RfV.other (h : RfV B L D w v1 v2 v3) {g : Nat} {C : Array Value} {t : TypeId} {fr : Nat × Nat} (hg : w.heap[g]? = some (.cells C t fr))
    (hn2 : t ≠ 76) (hn3 : t ≠ 4) (hk : ∀ j, j ≠ g → w'.heap[j]? = w.heap[j]?) : RfV B L D w' v1 v2 v3 :=
  ⟨h.1, ownk_other h.2.1 hg hn2 hk, ownk_other h.2.2 hg hn3 hk⟩
theorem RfV.ones (h : RfV B L D w v1 v2 v3) : (#[v1, v2, v3] : Array Value).all (·.oneCell') = true := by
  have h1 : (Value.string ⟨B.toArray⟩).oneCell' = true := rfl
  rw [h.1]
  simp [h1, ownk_one h.2.1, ownk_one h.2.2]
theorem RfV.forms (h : RfV B L D w v1 v2 v3) {nk nd : Nat} (h2 : L.length = nk) (h3 : D.length = nd) : ∃ A2 c2 A3 c3, v1 = .string ⟨B.toArray⟩ ∧ v2 = .slice A2 nk c2 ∧ v3 = .slice A3 nd c3 := by
  subst h2 h3
  obtain ⟨A2, c2, e2, _⟩ := ownk_form h.2.1
  obtain ⟨A3, c3, e3, _⟩ := ownk_form h.2.2
  exact ⟨A2, c2, A3, c3, h.1, e2, e3⟩
end
/-- a block among a row's cells -/
theorem rb_cells {w : World} {base nk c k : Nat} {A : Option Addr} {L : List Bk} {b : Bk} (h : w.ownsRow base 76 2 (.slice A nk c) nk (rbs L)) (hk : L[k]? = some b) (hL : L.length = nk) :
    ∃ g, A = some ⟨g, 0, none⟩ ∧ nk ≤ c ∧ w.cell? ⟨g, k * 2, none⟩ = some (.int .i64 (b.1 : Int)) ∧ w.cell? ⟨g, k * 2 + 1, none⟩ = some (.int .i64 ((b.1 : Int) + (b.2 : Int))) := by
  have hlt := (List.getElem?_eq_some_iff.1 hk).1
  obtain ⟨g, cq, cur, e, hg, hgc, hnc, _⟩ := ownk_some h (by omega)
  injection e with e1 e2 e3
  subst e1 e3
  have h2 := rbs_at L k b hk
  refine ⟨g, rfl, hnc, own_cell h ?_, own_cell h ?_⟩
  · have := congrArg (·[0]?) h2
    simp only [List.getElem?_take, List.getElem?_drop] at this
    simpa [rbC] using this
  · have := congrArg (·[1]?) h2
    simp only [List.getElem?_take, List.getElem?_drop] at this
    simpa [rbC] using this

set_option maxRecDepth 100000 in
set_option maxHeartbeats 1000000 in
theorem refin_any {B : List UInt8} {L : List Bk} {D : List Bool} {v : Value} (x n : Int) (w : World) (hv : Rf B L D v w) (hR : RightH B L D) (hx : I64 x) (hn : 0 ≤ n) (hn2 : n ≤ 9223372036854775807) :
    Calls Try.prog 48 #[v, .int .i64 x, .int .i64 n] w fun e w' => e = .returned (.bool (givenB L x n)) ∧ Below w.heap.size w w' := by
  unfold I64 at hx
  obtain ⟨nk, hnk⟩ : ∃ k, L.length = k := ⟨_, rfl⟩
  obtain ⟨nd, hnd⟩ : ∃ k, D.length = k := ⟨_, rfl⟩
  obtain ⟨v1, v2, v3, rfl, hv⟩ := hv
  obtain ⟨A2, c2, A3, c3, rfl, rfl, rfl⟩ := hv.forms hnk hnd
  have hmy : nk ≤ 4096 := by have := hR.many; omega
  have hby := hR.bytes
  have HR := Lib.hid hR
  have HNK := Lib.hid hnk
  have HB1 : Hid (Below w.heap.size w (w.alloc (.cells #[.string ⟨B.toArray⟩, .slice A2 nk c2, .slice A3 nd c3] 35))) := (Below.refl _ _).alloc (Nat.le_refl _) _
  have HX := Lib.hid (heap_alloc_new w (.cells #[.string ⟨B.toArray⟩, .slice A2 nk c2, .slice A3 nd c3] 35))
  have hv2 := hv.2.1
  rw [hnk] at hv2
  have HV := Lib.hid (ownk_below hv2 HB1.out (Nat.le_refl _))
  clear hv hv2 hnk hnd hR
  go_enter Try.func48, Try.ntmps48
  go_upto_region 1 with (fail)
  generalize w.alloc (.cells #[.string ⟨B.toArray⟩, .slice A2 nk c2, .slice A3 nd c3] 35) = w1 at HB1 HX HV ⊢
  generalize w.heap.size = b1 at HX ⊢
  go_wp2
  go_loopw [7] (fun t7 wr => ∃ k : Nat, k ≤ nk ∧ t7 = .int .i64 (k : Int) ∧ Hid (∀ j b, j < k → L[j]? = some b → inB x n b = false) ∧ w1 = wr) (fun t7 _ => nk - (intOf t7).toNat)
  case atStart => exact ⟨0, Nat.zero_le _, rfl, Lib.hid (fun j b hj => by omega), rfl⟩
  case round =>
    obtain ⟨k, hk, rfl, HNO, rfl⟩ := hrel
    obtain ⟨x0, x1, x2⟩ := three_cells HX.out
    by_cases hlt : k < nk
    · obtain ⟨⟨a, m⟩, hbk⟩ : ∃ p, L[k]? = some p := ⟨_, List.getElem?_eq_getElem (by rw [HNK.out]; exact hlt)⟩
      obtain ⟨g, rfl, hgc, y0, y1⟩ := rb_cells HV.out hbk HNK.out
      have hbd := blk_bound HR.out.blk _ (List.mem_of_getElem? hbk)
      simp only at hbd y0 y1
      have HBK := Lib.hid hbk
      clear hbk
      by_cases q1 : (a : Int) ≤ x
      · by_cases q2 : x ≤ (a : Int) + (m : Int)
        · by_cases q3 : n ≤ (a : Int) + (m : Int) - x
          · have HG : Hid (givenB L x n = true) := List.any_eq_true.2 ⟨_, List.mem_of_getElem? HBK.out, by simp only [inB, decide_eq_true_eq]; exact ⟨q1, q3⟩⟩
            go_wp2
            go_ret
            exact ⟨by rw [HG.out]; rfl, HB1.out⟩
          · have HN2 : Hid (∀ j b, j < k + 1 → L[j]? = some b → inB x n b = false) := fun j b hj hb => by
              by_cases hjk : j < k
              · exact HNO.out j b hjk hb
              · obtain rfl : j = k := by omega
                rw [HBK.out] at hb
                injection hb with hb
                rw [← hb]
                exact decide_eq_false fun h => q3 h.2
            go_wp2
            go_roundw
            case rel => exact ⟨k + 1, by omega, by go_num, HN2, trivial⟩
            case measure => simp [intOf]; omega
        · have HN2 : Hid (∀ j b, j < k + 1 → L[j]? = some b → inB x n b = false) := fun j b hj hb => by
            by_cases hjk : j < k
            · exact HNO.out j b hjk hb
            · obtain rfl : j = k := by omega
              rw [HBK.out] at hb
              injection hb with hb
              rw [← hb]
              exact decide_eq_false fun h => q2 (by simp only at h; omega)
          go_wp2
          go_roundw
          case rel => exact ⟨k + 1, by omega, by go_num, HN2, trivial⟩
          case measure => simp [intOf]; omega
      · have HN2 : Hid (∀ j b, j < k + 1 → L[j]? = some b → inB x n b = false) := fun j b hj hb => by
          by_cases hjk : j < k
          · exact HNO.out j b hjk hb
          · obtain rfl : j = k := by omega
            rw [HBK.out] at hb
            injection hb with hb
            rw [← hb]
            exact decide_eq_false fun h => q1 h.1
        go_wp2
        go_roundw
        case rel => exact ⟨k + 1, by omega, by go_num, HN2, trivial⟩
        case measure => simp [intOf]; omega
    · obtain rfl : k = nk := by omega
      have HG : Hid (givenB L x n = false) := List.any_eq_false.2 fun b hb => by
        obtain ⟨i, hi, rfl⟩ := List.mem_iff_getElem.1 hb
        rw [HNO.out i _ (by rw [← HNK.out]; exact hi) (List.getElem?_eq_getElem hi)]
        simp
      go_wp2
      go_ret
      exact ⟨by rw [HG.out]; rfl, HB1.out⟩
end Go.Proofs.Ytagajijjcjfopaa
