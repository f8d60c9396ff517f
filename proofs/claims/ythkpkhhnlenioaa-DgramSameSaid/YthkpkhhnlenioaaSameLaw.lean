/-
  The law DgramSame: every two Echoes and every Datagram. No condition.
-/
import Derived.Test.YthkpkhhnlenioaaShapes
import Derived.Deep.DeepCutAuto
namespace Go.Proofs.Ythkpkhhnlenioaa
open Go.RowKit

def Bx3 (w W : World) (ca cb cx : Array Value) : Prop := Below w.heap.size w W ∧ W.heap[w.heap.size]? = some (.cells ca 25 (0, 0)) ∧ W.heap[w.heap.size + 1]? = some (.cells cb 25 (0, 0)) ∧ W.heap[w.heap.size + 2]? = some (.cells cx 43 (0, 0))
theorem Bx3.on {w W W' : World} {ca cb cx : Array Value} (h : Bx3 w W ca cb cx) (hb : Below W.heap.size W W') : Bx3 w W' ca cb cx :=
  ⟨h.1.trans (hb.mono h.1.size), (hb.block _ (row_lt h.2.1)).trans h.2.1, (hb.block _ (row_lt h.2.2.1)).trans h.2.2.1, (hb.block _ (row_lt h.2.2.2)).trans h.2.2.2⟩
theorem wpList_load_rowg {P : Program} {ops : Array Oper} {rest : List Oper} {o : Oper} {a : Act} {w : World} {Q : Exit → Act → World → Prop} (hg : Region.wanted o (yielded ops a.tmps) = true) (ty : TypeId) (x : Operand) (ho : o.op = .load ty x) (g : Nat) (hx : a.eval x = .pointer (some ⟨g, 0, none⟩))
    (t : TypeId) (cs : Array Value) (fr : Nat × Nat) (d : TypeDesc) (hgg : w.heap[g]? = some (.cells cs t fr)) (hu : P.underlying ty = some d) (hd : d.isRow = true) (hi : (P.info? ty).map (·.size) = some cs.size)
    (h : wpList P ops Q rest (a.put o.dst (.agg cs)) w) : wpList P ops Q (o :: rest) a w :=
  wpList_wanted hg fun _ hK => wp_load_row ty x ho g hx t cs fr d hgg hu (by cases d <;> first | rfl | cases hd) hi (hK _ _ h)

set_option maxRecDepth 100000 in
set_option maxHeartbeats 4000000 in
theorem samelaw_any (cs ds es : Array Value) (x y : Ec) (z : Dg) (w : World) (hx : EcC w 0 w.heap.size cs x) (hy : EcC w 0 w.heap.size ds y) (hz : DgC w 0 w.heap.size es z) :
    Calls Try.prog 7 #[.agg cs, .agg ds, .agg es] w fun e w' => e = .returned (.bool true) ∧ Below w.heap.size w w' := by
  have hx2 := hx
  have hy2 := hy
  have hz2 := hz
  obtain ⟨A, c, rfl, -, hrx, hlx, hcx, -⟩ := hx2
  obtain ⟨B, d, rfl, -, hry, hly, hcy, -⟩ := hy2
  obtain ⟨D, f, rfl, -, -, hlz, hcz, -⟩ := hz2
  have HV : Hid (ecEq x y = decide (x.reply = y.reply ∧ x.id = y.id ∧ x.seq = y.seq ∧ x.data = y.data)) := rfl
  obtain ⟨nx, hnx⟩ : ∃ n, x.data.length = n := ⟨_, rfl⟩
  obtain ⟨ny, hny⟩ : ∃ n, y.data.length = n := ⟨_, rfl⟩
  obtain ⟨nz, hnz⟩ : ∃ n, z.data.length = n := ⟨_, rfl⟩
  rw [hnx] at hx hlx ⊢
  rw [hny] at hy hly ⊢
  rw [hnz] at hz hlz ⊢
  unfold maxLen at hcx hcy hcz
  obtain ⟨w1, hw1⟩ : ∃ w1, ((w.alloc (.cells #[.bool x.reply, .int .u16 (x.id : Int), .int .u16 (x.seq : Int), .slice A nx c] 25)).alloc (.cells #[.bool y.reply, .int .u16 (y.id : Int), .int .u16 (y.seq : Int), .slice B ny d] 25)).alloc (.cells #[.int .u16 (z.src : Int), .int .u16 (z.dst : Int), .slice D nz f] 43) = w1 := ⟨_, rfl⟩
  have HF : Hid (Bx3 w w1 #[.bool x.reply, .int .u16 (x.id : Int), .int .u16 (x.seq : Int), .slice A nx c] #[.bool y.reply, .int .u16 (y.id : Int), .int .u16 (y.seq : Int), .slice B ny d] #[.int .u16 (z.src : Int), .int .u16 (z.dst : Int), .slice D nz f]) := by
    rw [← hw1]
    refine ⟨(((Below.refl _ _).alloc (Nat.le_refl _) _).alloc (by simp) _).alloc (by simp; omega) _, old_alloc (old_alloc (heap_alloc_new w _) _) _, old_alloc ?_ _, ?_⟩
    · have := heap_alloc_new (w.alloc (.cells #[.bool x.reply, .int .u16 (x.id : Int), .int .u16 (x.seq : Int), .slice A nx c] 25)) (.cells #[.bool y.reply, .int .u16 (y.id : Int), .int .u16 (y.seq : Int), .slice B ny d] 25)
      rwa [World.size_alloc] at this
    · have := heap_alloc_new ((w.alloc (.cells #[.bool x.reply, .int .u16 (x.id : Int), .int .u16 (x.seq : Int), .slice A nx c] 25)).alloc (.cells #[.bool y.reply, .int .u16 (y.id : Int), .int .u16 (y.seq : Int), .slice B ny d] 25)) (.cells #[.int .u16 (z.src : Int), .int .u16 (z.dst : Int), .slice D nz f] 43)
      rwa [World.size_alloc, World.size_alloc] at this
  have HX := Lib.hid hx
  have HY := Lib.hid hy
  have HZ := Lib.hid hz
  have HRX := Lib.hid hrx
  have HRY := Lib.hid hry
  have HNX := Lib.hid hnx
  have HNY := Lib.hid hny
  clear hx hy hz hrx hry hnx hny hnz
  go_enter Try.func7, Try.ntmps7
  go_wp2_with fail
  refine (lives_any _).mono ?_
  rintro e w2 ⟨rfl, hb2⟩
  replace HF := Lib.hid (HF.out.on hb2)
  have k0 : w2.cell? ⟨w.heap.size, 0, none⟩ = _ := cell_of_row _ _ 0 _ _ _ HF.out.2.1
  have k1 : w2.cell? ⟨w.heap.size, 1, none⟩ = _ := cell_of_row _ _ 1 _ _ _ HF.out.2.1
  have k2 : w2.cell? ⟨w.heap.size, 2, none⟩ = _ := cell_of_row _ _ 2 _ _ _ HF.out.2.1
  have k3 : w2.cell? ⟨w.heap.size, 3, none⟩ = some (.slice A nx c) := cell_of_row _ _ 3 _ _ _ HF.out.2.1
  have l0 : w2.cell? ⟨w.heap.size + 1, 0, none⟩ = _ := cell_of_row _ _ 0 _ _ _ HF.out.2.2.1
  have l1 : w2.cell? ⟨w.heap.size + 1, 1, none⟩ = _ := cell_of_row _ _ 1 _ _ _ HF.out.2.2.1
  have l2 : w2.cell? ⟨w.heap.size + 1, 2, none⟩ = _ := cell_of_row _ _ 2 _ _ _ HF.out.2.2.1
  have l3 : w2.cell? ⟨w.heap.size + 1, 3, none⟩ = some (.slice B ny d) := cell_of_row _ _ 3 _ _ _ HF.out.2.2.1
  have m2 : w2.cell? ⟨w.heap.size + 2, 2, none⟩ = some (.slice D nz f) := cell_of_row _ _ 2 _ _ _ HF.out.2.2.2
  simp at k0 k1 k2 l0 l1 l2
  have ht1 := run_text (P := Try.prog) _ 23 9 5 c Try.underlying23 Try.underlying5 Try.underlying9 (HRX.out.below HF.out.1 (Nat.le_refl _))
  have ht2 := run_text (P := Try.prog) _ 23 9 5 d Try.underlying23 Try.underlying5 Try.underlying9 (HRY.out.below HF.out.1 (Nat.le_refl _))
  rw [HNX.out] at ht1
  rw [HNY.out] at ht2
  clear hb2
  by_cases g1 : 600 < nx
  · go_wp2_with fail
    refine (lives_any _).mono ?_
    rintro e w3 ⟨rfl, hb3⟩
    have HB3 := Lib.hid (HF.out.1.trans (hb3.mono HF.out.1.size))
    clear hb3
    go_wp2
    go_ret
    exact ⟨rfl, HB3.out⟩
  by_cases g2 : 600 < ny
  · go_wp2_with fail
    refine (lives_any _).mono ?_
    rintro e w3 ⟨rfl, hb3⟩
    have HB3 := Lib.hid (HF.out.1.trans (hb3.mono HF.out.1.size))
    clear hb3
    go_wp2
    go_ret
    exact ⟨rfl, HB3.out⟩
  by_cases g3 : 600 < nz
  · go_wp2_with fail
    refine (lives_any _).mono ?_
    rintro e w3 ⟨rfl, hb3⟩
    have HB3 := Lib.hid (HF.out.1.trans (hb3.mono HF.out.1.size))
    clear hb3
    go_wp2
    go_ret
    exact ⟨rfl, HB3.out⟩
  have hr : (ecEq x y = true ∧ (x.reply == y.reply) = true ∧ ((x.id : Int) == (y.id : Int)) = true ∧ ((x.seq : Int) == (y.seq : Int)) = true ∧ x.data = y.data) ∨ (ecEq x y = false ∧ ((x.reply == y.reply) = false ∨ ((x.reply == y.reply) = true ∧ ((x.id : Int) == (y.id : Int)) = false) ∨ ((x.reply == y.reply) = true ∧ ((x.id : Int) == (y.id : Int)) = true ∧ ((x.seq : Int) == (y.seq : Int)) = false) ∨ ((x.reply == y.reply) = true ∧ ((x.id : Int) == (y.id : Int)) = true ∧ ((x.seq : Int) == (y.seq : Int)) = true ∧ x.data ≠ y.data))) := by
    rw [HV.out]
    by_cases e1 : x.reply = y.reply
    · by_cases e2 : x.id = y.id
      · by_cases e3 : x.seq = y.seq
        · by_cases e4 : x.data = y.data
          · exact .inl ⟨decide_eq_true ⟨e1, e2, e3, e4⟩, by simp [e1], beqT (by omega), beqT (by omega), e4⟩
          · exact .inr ⟨decide_eq_false fun h => e4 h.2.2.2, .inr (.inr (.inr ⟨by simp [e1], beqT (by omega), beqT (by omega), e4⟩))⟩
        · exact .inr ⟨decide_eq_false fun h => e3 h.2.2.1, .inr (.inr (.inl ⟨by simp [e1], beqT (by omega), beqF (by omega)⟩))⟩
      · exact .inr ⟨decide_eq_false fun h => e2 h.2.1, .inr (.inl ⟨by simp [e1], beqF (by omega)⟩)⟩
    · exact .inr ⟨decide_eq_false fun h => e1 h.1, .inl (by simp [e1])⟩
  clear HV HRX HRY HNX HNY
  go_upto_region 3 with (fail)
  go_cut [7] (fun t7 wx => t7 = .bool (ecEq x y) ∧ wx = w2)
  case first =>
    rcases hr with ⟨hv, q1, q2, q3, q4⟩ | ⟨hv, hq⟩
    · obtain ⟨l, hl⟩ : ∃ l, x.data = l := ⟨_, rfl⟩
      rw [← q4, hl] at ht2
      rw [hl] at ht1
      have HV := Lib.hid hv
      clear hv q4 hl
      go_wp2_with fail
      go_meet
      case rel => exact ⟨by rw [HV.out], rfl⟩
    · have HV := Lib.hid hv
      clear hv
      rcases hq with q1 | ⟨q1, q2⟩ | ⟨q1, q2, q3⟩ | ⟨q1, q2, q3, q4⟩
      rotate_left 3
      obtain ⟨q5, q6⟩ := texts_ne q4
      clear q4
      all_goals
        go_wp2_with fail
        go_meet
        case rel => exact ⟨by rw [HV.out], rfl⟩
  case rest =>
    obtain ⟨rfl, rfl⟩ := hcut
    obtain ⟨r, hr0⟩ : ∃ r, ecEq x y = r := ⟨_, rfl⟩
    rw [hr0]
    have HV := Lib.hid hr0
    have hrr : (r == r) = true := by cases r <;> rfl
    clear hr hr0 k0 k1 k2 k3 l0 l1 l2 l3 m2 ht1 ht2
    go_wp2_with fail
    refine (build_not .nilIface 0 0 0 0 0 0 0 0 _ (.inl rfl)).mono ?_
    rintro e w4 ⟨A4, c4, rfl, -, hb⟩
    replace HF := Lib.hid (HF.out.on hb)
    clear hb
    go_wp2_with fail
    refine (build_not _ 0 0 0 0 0 0 0 0 _ (.inr (.inl ⟨_, rfl⟩))).mono ?_
    rintro e w5 ⟨A5, c5, rfl, -, hb⟩
    replace HF := Lib.hid (HF.out.on hb)
    clear hb
    go_wp2_with fail
    refine (build_not _ 0 0 0 0 0 0 0 0 _ (.inr (.inr ⟨_, rfl⟩))).mono ?_
    rintro e w6 ⟨A6, c6, rfl, -, hb⟩
    replace HF := Lib.hid (HF.out.on hb)
    clear hb
    have k00 : World.cell? _ ⟨w.heap.size, 0, none⟩ = some (.bool x.reply) := cell_of_row _ _ 0 _ _ _ HF.out.2.1
    have k01 : World.cell? _ ⟨w.heap.size, 1, none⟩ = some (.int .u16 (x.id : Int)) := cell_of_row _ _ 1 _ _ _ HF.out.2.1
    have k02 : World.cell? _ ⟨w.heap.size, 2, none⟩ = some (.int .u16 (x.seq : Int)) := cell_of_row _ _ 2 _ _ _ HF.out.2.1
    have k03 : World.cell? _ ⟨w.heap.size, 3, none⟩ = some (.slice A nx c) := cell_of_row _ _ 3 _ _ _ HF.out.2.1
    have k10 : World.cell? _ ⟨w.heap.size + 1, 0, none⟩ = some (.bool y.reply) := cell_of_row _ _ 0 _ _ _ HF.out.2.2.1
    have k11 : World.cell? _ ⟨w.heap.size + 1, 1, none⟩ = some (.int .u16 (y.id : Int)) := cell_of_row _ _ 1 _ _ _ HF.out.2.2.1
    have k12 : World.cell? _ ⟨w.heap.size + 1, 2, none⟩ = some (.int .u16 (y.seq : Int)) := cell_of_row _ _ 2 _ _ _ HF.out.2.2.1
    have k13 : World.cell? _ ⟨w.heap.size + 1, 3, none⟩ = some (.slice B ny d) := cell_of_row _ _ 3 _ _ _ HF.out.2.2.1
    go_wp2_with fail
    clear k00 k01 k02 k03 k10 k11 k12 k13
    refine (same_ec _ _ x y 0 w.heap.size 0 w.heap.size _ (HX.out.below HF.out.1 (Nat.le_refl _)) (HY.out.below HF.out.1 (Nat.le_refl _)) HF.out.1.size HF.out.1.size).mono ?_
    rw [HV.out]
    rintro e w7 ⟨rfl, hb⟩
    replace HF := Lib.hid (HF.out.on hb)
    clear hb
    have k00 : World.cell? _ ⟨w.heap.size, 0, none⟩ = some (.bool x.reply) := cell_of_row _ _ 0 _ _ _ HF.out.2.1
    have k01 : World.cell? _ ⟨w.heap.size, 1, none⟩ = some (.int .u16 (x.id : Int)) := cell_of_row _ _ 1 _ _ _ HF.out.2.1
    have k02 : World.cell? _ ⟨w.heap.size, 2, none⟩ = some (.int .u16 (x.seq : Int)) := cell_of_row _ _ 2 _ _ _ HF.out.2.1
    have k03 : World.cell? _ ⟨w.heap.size, 3, none⟩ = some (.slice A nx c) := cell_of_row _ _ 3 _ _ _ HF.out.2.1
    go_wp2_with fail
    clear k00 k01 k02 k03
    refine (same_ec _ _ x x 0 w.heap.size 0 w.heap.size _ (HX.out.below HF.out.1 (Nat.le_refl _)) (HX.out.below HF.out.1 (Nat.le_refl _)) HF.out.1.size HF.out.1.size).mono ?_
    rw [ecEq_self]
    rintro e w8 ⟨rfl, hb⟩
    replace HF := Lib.hid (HF.out.on hb)
    clear hb
    have k00 : World.cell? _ ⟨w.heap.size, 0, none⟩ = some (.bool x.reply) := cell_of_row _ _ 0 _ _ _ HF.out.2.1
    have k01 : World.cell? _ ⟨w.heap.size, 1, none⟩ = some (.int .u16 (x.id : Int)) := cell_of_row _ _ 1 _ _ _ HF.out.2.1
    have k02 : World.cell? _ ⟨w.heap.size, 2, none⟩ = some (.int .u16 (x.seq : Int)) := cell_of_row _ _ 2 _ _ _ HF.out.2.1
    have k03 : World.cell? _ ⟨w.heap.size, 3, none⟩ = some (.slice A nx c) := cell_of_row _ _ 3 _ _ _ HF.out.2.1
    have k20 : World.cell? _ ⟨w.heap.size + 1 + 1, 0, none⟩ = some (.int .u16 (z.src : Int)) := cell_of_row _ _ 0 _ _ _ HF.out.2.2.2
    have k21 : World.cell? _ ⟨w.heap.size + 1 + 1, 1, none⟩ = some (.int .u16 (z.dst : Int)) := cell_of_row _ _ 1 _ _ _ HF.out.2.2.2
    have k22 : World.cell? _ ⟨w.heap.size + 1 + 1, 2, none⟩ = some (.slice D nz f) := cell_of_row _ _ 2 _ _ _ HF.out.2.2.2
    go_wp2_with fail
    clear k00 k01 k02 k03 k20 k21 k22
    refine (same_wrap _ _ _ _ (same_ecdg0 _ _ x z 0 w.heap.size 0 w.heap.size _ (HX.out.below HF.out.1 (Nat.le_refl _)) (HZ.out.below HF.out.1 (Nat.le_refl _)))).mono ?_
    rintro e w9 ⟨rfl, hb⟩
    replace HF := Lib.hid (HF.out.on hb)
    clear hb
    have k00 : World.cell? _ ⟨w.heap.size, 0, none⟩ = some (.bool x.reply) := cell_of_row _ _ 0 _ _ _ HF.out.2.1
    have k01 : World.cell? _ ⟨w.heap.size, 1, none⟩ = some (.int .u16 (x.id : Int)) := cell_of_row _ _ 1 _ _ _ HF.out.2.1
    have k02 : World.cell? _ ⟨w.heap.size, 2, none⟩ = some (.int .u16 (x.seq : Int)) := cell_of_row _ _ 2 _ _ _ HF.out.2.1
    have k03 : World.cell? _ ⟨w.heap.size, 3, none⟩ = some (.slice A nx c) := cell_of_row _ _ 3 _ _ _ HF.out.2.1
    have k20 : World.cell? _ ⟨w.heap.size + 1 + 1, 0, none⟩ = some (.int .u16 (z.src : Int)) := cell_of_row _ _ 0 _ _ _ HF.out.2.2.2
    have k21 : World.cell? _ ⟨w.heap.size + 1 + 1, 1, none⟩ = some (.int .u16 (z.dst : Int)) := cell_of_row _ _ 1 _ _ _ HF.out.2.2.2
    have k22 : World.cell? _ ⟨w.heap.size + 1 + 1, 2, none⟩ = some (.slice D nz f) := cell_of_row _ _ 2 _ _ _ HF.out.2.2.2
    go_wp2_with fail
    clear k00 k01 k02 k03 k20 k21 k22
    refine (same_wrap _ _ _ _ (same_dgec0 _ _ x z 0 w.heap.size 0 w.heap.size _ (HX.out.below HF.out.1 (Nat.le_refl _)) (HZ.out.below HF.out.1 (Nat.le_refl _)))).mono ?_
    rintro e w10 ⟨rfl, hb⟩
    replace HF := Lib.hid (HF.out.on hb)
    clear hb
    have k20 : World.cell? _ ⟨w.heap.size + 1 + 1, 0, none⟩ = some (.int .u16 (z.src : Int)) := cell_of_row _ _ 0 _ _ _ HF.out.2.2.2
    have k21 : World.cell? _ ⟨w.heap.size + 1 + 1, 1, none⟩ = some (.int .u16 (z.dst : Int)) := cell_of_row _ _ 1 _ _ _ HF.out.2.2.2
    have k22 : World.cell? _ ⟨w.heap.size + 1 + 1, 2, none⟩ = some (.slice D nz f) := cell_of_row _ _ 2 _ _ _ HF.out.2.2.2
    go_wp2_with fail
    clear k20 k21 k22
    refine (same_dg _ _ z z 0 w.heap.size 0 w.heap.size _ (HZ.out.below HF.out.1 (Nat.le_refl _)) (HZ.out.below HF.out.1 (Nat.le_refl _)) HF.out.1.size HF.out.1.size).mono ?_
    rw [dgEq_self]
    rintro e w11 ⟨rfl, hb⟩
    replace HF := Lib.hid (HF.out.on hb)
    clear hb
    go_wp2_with fail
    refine (same_wrap _ _ _ _ (same_nil0 _)).mono ?_
    rintro e w12 ⟨rfl, hb⟩
    replace HF := Lib.hid (HF.out.on hb)
    clear hb
    have k20 : World.cell? _ ⟨w.heap.size + 1 + 1, 0, none⟩ = some (.int .u16 (z.src : Int)) := cell_of_row _ _ 0 _ _ _ HF.out.2.2.2
    have k21 : World.cell? _ ⟨w.heap.size + 1 + 1, 1, none⟩ = some (.int .u16 (z.dst : Int)) := cell_of_row _ _ 1 _ _ _ HF.out.2.2.2
    have k22 : World.cell? _ ⟨w.heap.size + 1 + 1, 2, none⟩ = some (.slice D nz f) := cell_of_row _ _ 2 _ _ _ HF.out.2.2.2
    go_wp2_with fail
    clear k20 k21 k22
    refine (same_wrap _ _ _ _ (same_nildg0 _ _)).mono ?_
    rintro e w13 ⟨rfl, hb⟩
    replace HF := Lib.hid (HF.out.on hb)
    clear hb
    have k20 : World.cell? _ ⟨w.heap.size + 1 + 1, 0, none⟩ = some (.int .u16 (z.src : Int)) := cell_of_row _ _ 0 _ _ _ HF.out.2.2.2
    have k21 : World.cell? _ ⟨w.heap.size + 1 + 1, 1, none⟩ = some (.int .u16 (z.dst : Int)) := cell_of_row _ _ 1 _ _ _ HF.out.2.2.2
    have k22 : World.cell? _ ⟨w.heap.size + 1 + 1, 2, none⟩ = some (.slice D nz f) := cell_of_row _ _ 2 _ _ _ HF.out.2.2.2
    go_wp2_with fail
    clear k20 k21 k22
    refine (same_wrap _ _ _ _ (same_dgnil0 _ z 0 w.heap.size _ (HZ.out.below HF.out.1 (Nat.le_refl _)))).mono ?_
    rintro e w14 ⟨rfl, hb⟩
    replace HF := Lib.hid (HF.out.on hb)
    clear hb
    go_wp2_with fail
    refine (same_wrap _ _ _ _ (same_pt0 _ _ _)).mono ?_
    rintro e w15 ⟨rfl, hb⟩
    replace HF := Lib.hid (HF.out.on hb)
    clear hb
    go_wp2
    go_ret
    exact ⟨rfl, HF.out.1⟩
end Go.Proofs.Ythkpkhhnlenioaa
