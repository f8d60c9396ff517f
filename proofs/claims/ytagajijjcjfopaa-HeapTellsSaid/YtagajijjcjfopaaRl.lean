/-
  The document's Like: a heap like the document's. No condition.
-/
import Derived.Test.YtagajijjcjfopaaRg
import Derived.Test.YtagajijjcjfopaaLooksL
namespace Go.Proofs.Ytagajijjcjfopaa
open Go.RowKit

set_option maxRecDepth 100000 in
set_option maxHeartbeats 8000000 in
theorem reflike_any {B : List UInt8} {L : List Bk} {D : List Bool} {v u : Value} {base : Nat} (w : World) (hv : Rf B L D v w) (hh : Hp base B L D u w) (hR : RightH B L D) :
    Calls Try.prog 14 #[v, u] w fun e w' => e = .returned (.bool true) ∧ Below w.heap.size w w' := by
  obtain ⟨nb, hnb⟩ : ∃ k, B.length = k := ⟨_, rfl⟩
  obtain ⟨nk, hnk⟩ : ∃ k, L.length = k := ⟨_, rfl⟩
  obtain ⟨nd, hnd⟩ : ∃ k, D.length = k := ⟨_, rfl⟩
  obtain ⟨v1, v2, v3, rfl, hv⟩ := hv
  obtain ⟨A2, c2, A3, c3, rfl, rfl, rfl⟩ := hv.forms hnk hnd
  obtain ⟨u1, u2, u3, rfl, hh⟩ := hh
  obtain ⟨A1, c1, A4, c4, A5, c5, rfl, rfl, rfl⟩ := hh.formsN hnb hnk hnd
  have hnd64 : nd ≤ 64 := by rw [← hnd]; exact hR.most
  have hmy : nk ≤ 4096 := by have := hR.many; have := hR.bytes; omega
  have HNB := Lib.hid hnb
  have HNK := Lib.hid hnk
  have HND := Lib.hid hnd
  have HR := Lib.hid hR
  obtain ⟨w1, hw1⟩ : ∃ w1, ((w.alloc (.cells #[.string ⟨B.toArray⟩, .slice A2 nk c2, .slice A3 nd c3] 35)).alloc (.cells #[.slice A1 nb c1, .slice A4 nk c4, .slice A5 nd c5] 29)) = w1 := ⟨_, rfl⟩
  have HB1 : Hid (Below w.heap.size w w1) := by rw [← hw1]; exact ((Below.refl _ _).alloc (Nat.le_refl _) _).alloc (by simp) _
  have HX : Hid (w1.heap[w.heap.size]? = some (.cells #[.string ⟨B.toArray⟩, .slice A2 nk c2, .slice A3 nd c3] 35 (0, 0))) := by rw [← hw1]; exact old_alloc (heap_alloc_new w _) _
  have HY : Hid (w1.heap[w.heap.size + 1]? = some (.cells #[.slice A1 nb c1, .slice A4 nk c4, .slice A5 nd c5] 29 (0, 0))) := by
    rw [← hw1]
    have := heap_alloc_new (w.alloc (.cells #[.string ⟨B.toArray⟩, .slice A2 nk c2, .slice A3 nd c3] 35)) (.cells #[.slice A1 nb c1, .slice A4 nk c4, .slice A5 nd c5] 29)
    rwa [World.size_alloc] at this
  have HV : Hid (RfV B L D w1 (.string ⟨B.toArray⟩) (.slice A2 nk c2) (.slice A3 nd c3)) := hv.below HB1.out
  have HH : Hid (HpV base B L D w1 (.slice A1 nb c1) (.slice A4 nk c4) (.slice A5 nd c5)) := hh.below HB1.out
  have hs1 : (convert 25 9 (.slice A1 nb c1)).run Try.prog w1 = .ok (.string ⟨B.toArray⟩) w1 := by
    have := run_text (P := Try.prog) w1 25 9 5 (l := B) c1 Try.underlying25 Try.underlying5 Try.underlying9 (ownk_rd (by have := HH.out.1; rwa [HNB.out] at this))
    rwa [HNB.out] at this
  have hr2 := HV.out.2.1
  have hr3 := HV.out.2.2
  have hh2 := HH.out.2.1
  have hh3 := HH.out.2.2
  rw [HNK.out] at hr2 hh2
  rw [HND.out] at hr3 hh3
  have HR2 := Lib.hid hr2
  have HR3 := Lib.hid hr3
  have HH2 := Lib.hid hh2
  have HH3 := Lib.hid hh3
  clear hv hh hnb hnk hnd hR hr2 hr3 hh2 hh3
  go_enter Try.func14, Try.ntmps14
  go_upto_region 1 with (fail)
  clear hw1
  obtain ⟨x0, x1, x2⟩ := three_cells HX.out
  obtain ⟨y0, y1, y2⟩ := three_cells HY.out
  go_wp2
  clear hs1 x0 x1 x2 y0 y1 y2
  go_loopw [5] (fun t5 wr => ∃ k : Nat, k ≤ nk ∧ t5 = .int .i64 (k : Int) ∧ Hid (Below w1.heap.size w1 wr)) (fun t5 _ => nk - (intOf t5).toNat)
  case atStart => exact ⟨0, Nat.zero_le _, rfl, Lib.hid (Below.refl _ _)⟩
  case round =>
    obtain ⟨k, hk, rfl, HBEL⟩ := hrel
    have HX2 := Lib.hid (old_below HX.out HBEL.out (row_lt HX.out))
    have HY2 := Lib.hid (old_below HY.out HBEL.out (row_lt HY.out))
    obtain ⟨x0, x1, x2⟩ := three_cells HX2.out
    obtain ⟨y0, y1, y2⟩ := three_cells HY2.out
    by_cases hlt : k < nk
    · obtain ⟨⟨f, s⟩, hbk⟩ : ∃ p, L[k]? = some p := ⟨_, List.getElem?_eq_getElem (by rw [HNK.out]; exact hlt)⟩
      have hbd := blk_bound HR.out.blk _ (List.mem_of_getElem? hbk)
      have hby := HR.out.bytes
      simp only at hbd
      have hr := ownk_below HR2.out HBEL.out (Nat.le_refl _)
      have hh := ownk_below HH2.out HBEL.out (Nat.le_refl _)
      obtain ⟨g, rfl, hgc, p0, p1⟩ := rb_cells hr hbk HNK.out
      obtain ⟨g4, cq, cur, e4, -, -, hgc4, -⟩ := ownk_some hh (by omega)
      injection e4 with e4 _ e5
      subst e4 e5
      obtain ⟨m0, m1⟩ := bks_two L k _ hbk
      have q0 := own_cell hh m0
      have q1 := own_cell hh m1
      simp only at p0 p1 q0 q1
      have hw5 : IntKind.i64.wrap ((f : Int) + (s : Int) - (f : Int)) = (s : Int) := by rw [IntWalk.i64_in _ ⟨by omega, by omega⟩]; omega
      clear hr hh hbk m0 m1
      go_wp2
      go_quiet (fail)
      rename_i nq
      have HB4 : Hid (Below w1.heap.size w1 (wr.drewN nq)) := below_drewN' HBEL.out nq
      generalize wr.drewN nq = we at HB4 ⊢
      clear x0 x1 x2 y0 y1 y2 p0 p1 q0 q1
      go_wp2
      go_roundw
      case rel => exact ⟨k + 1, by omega, by go_num, HB4⟩
      case measure => simp [intOf]; omega
    · obtain rfl : nk = k := by omega
      have HB2 := Lib.hid (HB1.out.trans (HBEL.out.mono HB1.out.size))
      have HRA := Lib.hid (ownk_below HR3.out HBEL.out (Nat.le_refl _))
      have HHA := Lib.hid (ownk_below HH3.out HBEL.out (Nat.le_refl _))
      clear HBEL HR3 HH3 HR2 HH2 HV HH HX HY
      go_wp2
      clear x0 x1 x2 y0 y1 y2
      go_loopw [6] (fun t6 wz => ∃ k : Nat, k ≤ nd ∧ t6 = .int .i64 (k : Int) ∧ Hid (Below wr.heap.size wr wz)) (fun t6 _ => nd - (intOf t6).toNat)
      case atStart => exact ⟨0, Nat.zero_le _, rfl, Lib.hid (Below.refl _ _)⟩
      case round =>
        obtain ⟨j, hj, rfl, HBJ⟩ := hrel
        have HX3 := Lib.hid (old_below HX2.out HBJ.out (row_lt HX2.out))
        have HY3 := Lib.hid (old_below HY2.out HBJ.out (row_lt HY2.out))
        obtain ⟨x0, x1, x2⟩ := three_cells HX3.out
        obtain ⟨y0, y1, y2⟩ := three_cells HY3.out
        by_cases hlt2 : j < nd
        · obtain ⟨d, hd⟩ : ∃ d, D[j]? = some d := ⟨_, List.getElem?_eq_getElem (by rw [HND.out]; exact hlt2)⟩
          have ha := ownk_below HRA.out HBJ.out (Nat.le_refl _)
          have hb := ownk_below HHA.out HBJ.out (Nat.le_refl _)
          obtain ⟨g3, cq, cur, e3, -, -, hgc3, -⟩ := ownk_some ha (by omega)
          injection e3 with e3 _ e4
          subst e3 e4
          obtain ⟨g5, cq, cur, e5, -, -, hgc5, -⟩ := ownk_some hb (by omega)
          injection e5 with e5 _ e6
          subst e5 e6
          have p0 := own_cell ha (j := j) (u := .bool d) (by simp [tfs, hd])
          have q0 := own_cell hb (j := j) (u := .bool d) (by simp [tfs, hd])
          clear ha hb hd
          cases d
          · go_wp2
            go_quiet (fail)
            rename_i nq
            have HB4 : Hid (Below _ _ _) := below_drewN' HBJ.out nq
            clear x0 x1 x2 y0 y1 y2 p0 q0
            go_wp2
            go_roundw
            case rel => exact ⟨j + 1, by omega, by go_num, HB4⟩
            case measure => simp [intOf]; omega
          · go_wp2
            go_quiet (fail)
            rename_i nq
            have HB4 : Hid (Below _ _ _) := below_drewN' HBJ.out nq
            clear x0 x1 x2 y0 y1 y2 p0 q0
            go_wp2
            go_roundw
            case rel => exact ⟨j + 1, by omega, by go_num, HB4⟩
            case measure => simp [intOf]; omega
        · obtain rfl : nd = j := by omega
          have HB3 := Lib.hid (HB2.out.trans (HBJ.out.mono HB2.out.size))
          go_wp2
          go_ret
          exact ⟨rfl, HB3.out⟩
end Go.Proofs.Ytagajijjcjfopaa
