/-
  caravellaw18.step: one act upon a state that may be, and the code's of it: what both answer. Every act with at most 400 bytes.
-/
import Derived.Test.YtebflcpoecolbaaSv
import Derived.Test.YtebflcpoecolbaaSn
import Derived.Test.YtebflcpoecolbaaSg
import Derived.Test.YtebflcpoecolbaaByt
import Derived.Test.YtebflcpoecolbaaFld
import Derived.Test.YtebflcpoecolbaaSto
namespace Go.Proofs.Ytebflcpoecolbaa
open Go.RowKit

def kindS (z : Int) : Nat := ((IntKind.u64.wrap z).tmod 7).toNat
theorem kindS_eq (z : Int) : (IntKind.u64.wrap z).tmod 7 = (kindS z : Int) ∧ kindS z < 7 := by
  obtain ⟨r, hr, h7⟩ := u64_rem z 7 (by decide) (by decide)
  have hr : (IntKind.u64.wrap z).tmod 7 = (r : Int) := hr
  unfold kindS
  rw [hr]
  exact ⟨rfl, h7⟩
/-- what one act makes of a state -/
def stepS (x : Sx) (o : Op18) : Sx :=
  if kindS o.kind = 0 then writeS x o.data else if kindS o.kind = 1 ∨ kindS o.kind = 2 then nextS x o.n o.size else if kindS o.kind = 3 then x else if kindS o.kind = 4 ∨ kindS o.kind = 5 then ackS x (addS (addS x.first x.acked) o.n) else closeS x
theorem step_def (x : Sx) (kd : Int) (D : List UInt8) (nn sz : Int) : stepS x ⟨kd, D, nn, sz⟩ = if kindS kd = 0 then writeS x D else if kindS kd = 1 ∨ kindS kd = 2 then nextS x nn sz else if kindS kd = 3 then x else if kindS kd = 4 ∨ kindS kd = 5 then ackS x (addS (addS x.first x.acked) nn) else closeS x := rfl
theorem step_okS {x : Sx} (h : OkS x) (o : Op18) : OkS (stepS x o) := by
  unfold stepS
  split
  · exact write_okS h _
  · split
    · exact next_okS h _ _
    · split
      · exact h
      · split
        · exact ack_okS h _
        · exact close_okS h
theorem step_lenS (x : Sx) (o : Op18) : (stepS x o).all.length ≤ x.all.length + o.data.length := by
  unfold stepS
  split
  · show (x.all ++ o.data.take (writeN x o.data)).length ≤ _
    rw [List.length_append, List.length_take]
    omega
  · split
    · exact Nat.le_add_right ..
    · split
      · exact Nat.le_add_right ..
      · split
        · unfold ackS
          split
          · exact Nat.le_add_right ..
          · exact Nat.le_add_right ..
        · exact Nat.le_add_right ..
theorem next_form (x : Sx) (u v : Int) : ∃ a l, nextV x u v = #[.agg (sxC (nextS x u v)), .int .u32 a, txtV l, .bool (nextE x u v), .bool (nextO x u v)] ∧ nextP x u v = spcD a l := by
  unfold nextV nextP
  cases h : nextO x u v
  · exact ⟨0, [], by rw [next_noE h]; rfl, rfl⟩
  · exact ⟨_, _, rfl, rfl⟩
theorem again_form (x : Sx) (v : Int) : ∃ a l, againV x v = #[.int .u32 a, txtV l, .bool (againE x v), .bool (againO x v)] ∧ againP x v = spcD a l := by
  unfold againV againP
  cases h : againO x v
  · exact ⟨0, [], by rw [again_noE h]; rfl, rfl⟩
  · exact ⟨_, _, rfl, rfl⟩
theorem sq_cells {w : World} {b : Nat} {q : Sq} {vD : Value} {t : TypeId} {fr : Nat × Nat} (h : w.heap[b]? = some (.cells (sqC q vD) t fr)) : w.cell? ⟨b, 0, none⟩ = some (.int .u32 q.una) := (cell_of_row _ _ _ _ _ _ h).trans rfl
theorem sq_ones {w : World} {S : Nat → Prop} {q : Sq} {vD : Value} (h : Rvs w S (sqC q vD).toList (sqD q)) : (sqC q vD).all (·.oneCell') = true := Array.all_eq_true_iff_forall_mem.2 fun u hu => h.ones u (by simpa using hu)
theorem act_okS {x : Sx} (h : OkS x) (hl : x.all.length ≤ 1000000) : x.acked ≤ 1000001 := by
  have h1 := h.acked
  have h2 := h.sent
  split at h1 <;> omega
set_option maxRecDepth 100000 in
set_option maxHeartbeats 40000000 in
theorem step18_any (x : Sx) (cs oc : Array Value) (o : Op18) (S : Nat → Prop) (w : World) (hr : Rvs w S cs.toList (sqD (concS x))) (ho : Rvs w S oc.toList (op18D o)) (hx : OkS x) (hO : ok18 o) (h4 : o.data.length ≤ 400) (hl : x.all.length ≤ 999000) :
    Calls Try.prog 11 #[.agg cs, .agg (sxC x), .agg oc] w fun e w' => ∃ cs' : Array Value, e = .returned (.tuple #[.agg cs', .agg (sxC (stepS x o)), .bool true]) ∧ Rvs w' (fun b => S b ∨ w.heap.size ≤ b) cs'.toList (sqD (concS (stepS x o))) ∧ Below w.heap.size w w' := by
  obtain ⟨vD, rfl, hvD, hq1⟩ := sq_of hr
  obtain ⟨B, eb, hoc, hrb⟩ := op_form ho
  obtain ⟨hkk, hk7⟩ := kindS_eq o.kind
  obtain ⟨ho1, -, ho3, ho4⟩ := hO
  obtain ⟨kd, D, nn, sz⟩ := o
  dsimp only at hoc hrb hkk hk7 ho1 ho3 ho4 h4
  have HST := Lib.hid (step_def x kd D nn sz)
  obtain rfl : oc = #[.int .i64 kd, .slice B D.length eb, .int .i64 nn, .int .i64 sz] := by rw [← Array.toArray_toList (xs := oc), hoc]
  obtain ⟨k, hk⟩ : ∃ k, D.length = k := ⟨_, rfl⟩
  have HDK := Lib.hid hk
  rw [hk] at hoc hrb h4 ⊢
  have HOX := Lib.hid hx
  have HLX : Hid (x.all.length ≤ 1000000) := by show _ ≤ _; omega
  have HN := Lib.hid ho3
  have HSZ := Lib.hid ho4
  obtain ⟨y, hy⟩ : ∃ y, stepS x ⟨kd, D, nn, sz⟩ = y := ⟨_, rfl⟩
  rw [hy] at HST ⊢
  obtain ⟨kk, hkq⟩ : ∃ kk, kindS kd = kk := ⟨_, rfl⟩
  rw [hkq] at hkk hk7 HST
  obtain ⟨g3, hg3⟩ : ∃ g, w.heap.size = g := ⟨_, rfl⟩
  obtain ⟨g4, hg4⟩ : ∃ g, g3 + 1 = g := ⟨_, rfl⟩
  obtain ⟨g5, hg5⟩ : ∃ g, g4 + 1 = g := ⟨_, rfl⟩
  obtain ⟨g6, hg6⟩ : ∃ g, g5 + 1 = g := ⟨_, rfl⟩
  obtain ⟨g7, hg7⟩ : ∃ g, g6 + 1 = g := ⟨_, rfl⟩
  obtain ⟨w0, hw0⟩ : ∃ w0, ((((w.alloc (.cells (sqC (concS x) vD) 28)).alloc (.cells (sxC x) 31)).alloc (.cells #[.int .i64 kd, .slice B k eb, .int .i64 nn, .int .i64 sz] 33)).alloc (.cells #[.int .u32 0, .slice none 0 0, .int .i64 0, .bool false, .bool false, .bool false] 28)).alloc (.cells Zsx 31) = w0 := ⟨_, rfl⟩
  have F1 : Hid (Frs S w w0 [(g7, Zsx, 31), (g6, #[.int .u32 0, .slice none 0 0, .int .i64 0, .bool false, .bool false, .bool false], 28), (g5, #[.int .i64 kd, .slice B k eb, .int .i64 nn, .int .i64 sz], 33), (g4, (sxC x), 31), (g3, (sqC (concS x) vD), 28)] [([.slice B k eb], [bytesD D]), ((sqC (concS x) vD).toList, sqD (concS x))]) := by
    have f := ((((((Frs.start (S := S) (Below.refl w.heap.size w)).alloc (sqC (concS x) vD) 28).alloc (sxC x) 31).alloc #[.int .i64 kd, .slice B k eb, .int .i64 nn, .int .i64 sz] 33).alloc #[.int .u32 0, .slice none 0 0, .int .i64 0, .bool false, .bool false, .bool false] 28).alloc Zsx 31)
    have e4 : (w.alloc (.cells (sqC (concS x) vD) 28)).heap.size = g4 := by rw [← hg4, ← hg3]; simp
    have e5 : ((w.alloc (.cells (sqC (concS x) vD) 28)).alloc (.cells (sxC x) 31)).heap.size = g5 := by rw [← hg5, ← hg4, ← hg3]; simp
    have e6 : (((w.alloc (.cells (sqC (concS x) vD) 28)).alloc (.cells (sxC x) 31)).alloc (.cells #[.int .i64 kd, .slice B k eb, .int .i64 nn, .int .i64 sz] 33)).heap.size = g6 := by rw [← hg6, ← hg5, ← hg4, ← hg3]; simp
    have e7 : ((((w.alloc (.cells (sqC (concS x) vD) 28)).alloc (.cells (sxC x) 31)).alloc (.cells #[.int .i64 kd, .slice B k eb, .int .i64 nn, .int .i64 sz] 33)).alloc (.cells #[.int .u32 0, .slice none 0 0, .int .i64 0, .bool false, .bool false, .bool false] 28)).heap.size = g7 := by rw [← hg7, ← hg6, ← hg5, ← hg4, ← hg3]; simp
    rw [e7, e6, e5, e4, hg3, hw0] at f
    have f2 := f.add (f.old hr)
    rw [← hk] at hrb
    have f3 := f2.add (f2.old (rvs_cons.2 ⟨hrb, rvs_nil⟩))
    rw [hk] at f3
    exact f3
  have HW0 := Lib.hid hw0
  clear hr ho hoc hrb hx hk ho1 ho3 ho4 hl hvD hq1 hw0 hkq hy
  go_enter Try.func11, Try.ntmps11
  go_upto_region 1 with (fail)
  change Code.wp _ _ _ _ (((((w.alloc (.cells (sqC (concS x) vD) 28)).alloc (.cells (sxC x) 31)).alloc (.cells #[.int .i64 kd, .slice B k eb, .int .i64 nn, .int .i64 sz] 33)).alloc (.cells #[.int .u32 0, .slice none 0 0, .int .i64 0, .bool false, .bool false, .bool false] 28)).alloc (.cells Zsx 31))
  rw [HW0.out]
  clear HW0 hg3 hg4 hg5 hg6 hg7
  obtain ⟨o0, o1, o2, o3⟩ := four_at (F1.out.at (i := 2) rfl)
  obtain rfl | rfl | rfl | rfl | rfl | rfl | rfl : kk = 0 ∨ kk = 1 ∨ kk = 2 ∨ kk = 3 ∨ kk = 4 ∨ kk = 5 ∨ kk = 6 := by omega
  · as_aux_lemma =>
      have HY : Hid (y = writeS x D) := by show _ = _; rw [HST.out, if_pos rfl]
      obtain ⟨q, hq⟩ : ∃ q, writeN x D = q := ⟨_, rfl⟩
      have HD10 : Hid (D.length ≤ 1000) := by show _ ≤ _; rw [HDK.out]; omega
      have HCA := Lib.hid (fun w' S S2 v (hr : Rvs w' S (sqC (concS x) vD).toList (sqD (concS x))) (hv : Rv w' S2 v (bytesD D)) => write18_any x (sqC (concS x) vD) S S2 v D w' hr HOX.out hv HD10.out)
      have HCB := Lib.hid (fun w' => refwrite_any x D w' HOX.out HLX.out HD10.out)
      rw [hq, ← HY.out] at HCA HCB
      clear hq HST HY
      go_upto_region 3 with (fail)
      have F2 := Lib.hid (F1.out.call ((Below.refl _ _).alloc (Nat.le_refl _) (.cells #[] 5)))
      obtain ⟨hR0, hnil, hle, hmx⟩ := byt_rd (rvs_cons.1 (F2.out.val (i := 0) rfl)).1 HDK.out
      have R0 := Lib.hid hR0
      have HNIL := Lib.hid hnil
      have HOW : Hid ((w0.alloc (.cells #[] 5)).ownsRow w0.heap.size 5 1 (.slice (some ⟨w0.heap.size, 0, none⟩) 0 0) 0 []) := own_empty w0 5 1
      obtain ⟨i0, hi0, hz0, hz1, hz2⟩ := byte_parts
      have hz3 : ((.int .u8 0) : Value).cells.size = 1 := rfl
      clear hR0 hnil hle hmx o0 o1 o2 o3
      obtain ⟨o0, o1, o2, o3⟩ := four_at (F2.out.at (i := 2) rfl)
      go_upto_region 4 with (first | (at_builtin; refine wpList_append_rdk (P := Try.prog) rfl _ _ 26 rfl w0.heap.size 5 i0 _ 1 1 Try.underlying26 hi0 hz0 hz1 hz2 hz3 (by omega) _ 0 [] rfl HOW.out B k eb (cells D) rfl HNIL.out (by rw [cells_length, HDK.out, Nat.mul_one]) R0.out (cells_one D) (by unfold maxLen; omega) (by omega) (by simp) ?_; intro v9 w6 hown hgrow _))
      have hb6 : Below w0.heap.size w0 w6 := ((Below.refl w0.heap.size w0).alloc (Nat.le_refl _) _).grown hgrow (by simp) fun g hg => (HOW.out.lt g hg).1
      have hof : w6.ownsRow w0.heap.size 5 1 v9 k (cells D) := by simpa using hown
      obtain ⟨A9, c9, rfl, -⟩ := ownk_form hof
      have HOF := Lib.hid hof
      have HB6 := Lib.hid hb6
      clear hown hgrow hb6 hof HOW R0 HNIL F2 hi0 hz0 hz1 hz2 hz3 o0 o1 o2 o3
      rcases Nat.eq_zero_or_pos k with hk0 | hk0
      · subst hk0
        have F5 := Lib.hid (F1.out.call HB6.out)
        have HVO := Lib.hid (byt_own HOF.out HDK.out)
        clear HOF HB6 F1
        obtain ⟨o0, o1, o2, o3⟩ := four_at (F5.out.at (i := 2) rfl)
        go_wp2_with (refine wpList_load_row rfl 28 _ rfl g3 rfl 28 (sqC (concS x) vD) (0, 0) _ (F5.out.at (i := 4) rfl) Try.underlying28 rfl (by kernel_rfl) ?_)
        refine (HCA.out _ _ _ _ (F5.out.val (i := 1) rfl) HVO.out).mono ?_
        rintro e w7 ⟨cs', rfl, hr, hb⟩
        obtain ⟨vD', rfl, -, h1⟩ := sq_of hr
        have H1 := Lib.hid h1
        have F6 := Lib.hid (F5.out.res hb hr)
        clear h1 hr hb F5 o0 o1 o2 o3 HCA HVO
        obtain ⟨o0, o1, o2, o3⟩ := four_at (F6.out.at (i := 2) rfl)
        go_upto_region 5 with (first | (refine wpList_store_new rfl 28 _ _ rfl w7 #[.int .u32 0, .slice none 0 0, .int .i64 0, .bool false, .bool false, .bool false] (sqC (concS y) vD') rfl rfl (by kernel_rfl) rfl H1.out ?_) | go_in)
        have F7 := Lib.hid (F6.out.alloc (sqC (concS y) vD') 28)
        obtain ⟨ga, hga⟩ : ∃ g, w7.heap.size = g := ⟨_, rfl⟩
        rw [hga] at F7 ⊢
        change Code.wp _ _ _ _ (w7.alloc (.cells (sqC (concS y) vD') 28))
        generalize w7.alloc (.cells (sqC (concS y) vD') 28) = w8 at F7 ⊢
        clear F6 hga o0 o1 o2 o3
        obtain ⟨o0, o1, o2, o3⟩ := four_at (F7.out.at (i := 3) rfl)
        have hcv := byt_text (rvs_cons.1 (F7.out.val (i := 1) rfl)).1 w8 (Below.refl _ _)
        rw [show (.string ⟨D.toArray⟩ : Value) = txtV D from rfl] at hcv
        go_wp2_with (refine wpList_load_row rfl 31 _ rfl g4 rfl 31 (sxC x) (0, 0) _ (F7.out.at (i := 4) rfl) Try.underlying31 rfl (by kernel_rfl) ?_)
        refine (HCB.out _).mono ?_
        rintro e w9 ⟨rfl, hb⟩
        have F8 := Lib.hid (F7.out.call hb)
        clear hb F7 o0 o1 o2 o3 HCB hcv
        go_upto_region 6 with (first | (refine wpList_store_new rfl 31 _ _ rfl w9 Zsx (sxC y) rfl rfl (by kernel_rfl) rfl (sx_ones _) ?_) | go_in)
        have F9 := Lib.hid (F8.out.alloc (sxC y) 31)
        obtain ⟨gb, hgb⟩ : ∃ g, w9.heap.size = g := ⟨_, rfl⟩
        rw [hgb] at F9 ⊢
        change Code.wp _ _ _ _ (w9.alloc (.cells (sxC y) 31))
        generalize w9.alloc (.cells (sxC y) 31) = w10 at F9 ⊢
        clear F8 hgb
        go_wp2
        go_loopw [64] (fun t64 wr => t64 = .int .i64 0 ∧ Hid (w10 = wr)) (fun _ _ => 0)
        case atStart => exact ⟨rfl, Lib.hid rfl⟩
        case round =>
          obtain ⟨rfl, hwr⟩ := hrel
          obtain rfl := hwr.out
          have FD : Hid (Frs S w w10 [(gb, (sxC y), 31), (ga, (sqC (concS y) vD'), 28), (g7, Zsx, 31), (g6, #[.int .u32 0, .slice none 0 0, .int .i64 0, .bool false, .bool false, .bool false], 28), (g5, #[.int .i64 kd, .slice B 0 eb, .int .i64 nn, .int .i64 sz], 33), (g4, (sxC x), 31), (g3, (sqC (concS x) vD), 28)] [((sqC (concS y) vD').toList, sqD (concS y)), ([.slice B 0 eb], [bytesD D]), ((sqC (concS x) vD).toList, sqD (concS x))]) := F9
          clear F9
          have HX6 := Lib.hid (FD.out.at (i := 3) rfl)
          have HX7 := Lib.hid (FD.out.at (i := 2) rfl)
          have HXA := Lib.hid (FD.out.at (i := 1) rfl)
          have HXB := Lib.hid (FD.out.at (i := 0) rfl)
          have NE12 : Hid (g6 ≠ g7) := FD.out.ne (i := 3) (j := 2) rfl rfl (by decide)
          have NA6 : Hid (ga ≠ g6) := FD.out.ne (i := 1) (j := 3) rfl rfl (by decide)
          have NA7 : Hid (ga ≠ g7) := FD.out.ne (i := 1) (j := 2) rfl rfl (by decide)
          have NB6 : Hid (gb ≠ g6) := FD.out.ne (i := 0) (j := 3) rfl rfl (by decide)
          have NB7 : Hid (gb ≠ g7) := FD.out.ne (i := 0) (j := 2) rfl rfl (by decide)
          go_upto_region 11 with (fail)
          apply wp_region_relyQ (fun _ => true) (fun k => k = g6 ∨ k = g7) (RL [Is (.agg (sqC (concS y) vD')), Is (.agg (sxC y)), Is _, Is _, Is (.bool true), Sto g6 (sqC (concS y) vD') 28, Sto g7 (sxC y) 31, Is (.bool true)]) [false, false, false, false, false, false, false, false, true, false, false, false, false, false, false, false, false, false, false, false, false, false, false, false, false, false, false, false, false, false, false, false, false, false, false, false, false, false, false, false, false, false, false, false, false, false, false, false, false, false, false, false, false, false, false, false, false, false, false, false, false, false, false, false, false, false, false, false, false, false, false, false, false, false, true, true, true, true, true, false, false, false, false, false, false, false, false, false, false, false, false, false, false, false, false, false, false, false, false, false, false, false, false, false, false, false, false, false, false, false, false, false, false, false, false, false, false, false, false, false, false, false, false, false, false, false, false, false, false, false, false, false, false, false, false, false, false, false, false, false, false, false, false, false, false, false, false, false, false, false, false, false, false, false, false, false, false, false, false, false, false, false, false, false, false, false, false, false, false, false, false, false, false, false, false, false, false, false, false, false, false, false, false, false, false, false, false, false, false, false, false, false, false, false, false, false, false, false, false, false, false, false, false, false, false, false, false]
          · kernel_rfl
          · kernel_rfl
          · kernel_rfl
          · refine ⟨?_, ?_, ?_, ?_, ?_, ?_, ?_, ?_, trivial⟩
            · refine ⟨rfl, ?_⟩
              refine (if_pos (by decide)).mpr ?_
              intro ev w' hC hc hf hb hr K hK
              have e10 : ev (.tmp 10) = _ := hb 10 (by kernel_rfl)
              have HK := Lib.hid hK
              have HC := Lib.hid hC
              clear hb hr hK hC hf
              have q1 : ev (.tmp 10) = .pointer (some ⟨ga, 0, none⟩) := e10
              have hld := run_loadVar_row (P := Try.prog) w' ga 28 28 (sqC (concS y) vD') (0, 0) _ (gro_old HC.out HXA.out (fun e => by rcases e with e | e; exact NA6.out e; exact NA7.out e)) Try.underlying28 rfl (by kernel_rfl)
              unfold Run
              rw [rely_load 28 _ rfl q1 hld]
              exact HK.out _ _ (.inl (Below.refl _ _)) rfl
            · refine ⟨rfl, ?_⟩
              refine (if_pos (by decide)).mpr ?_
              intro ev w' hC hc hf hb hr K hK
              have e12 : ev (.tmp 12) = _ := hb 12 (by kernel_rfl)
              have HK := Lib.hid hK
              have HC := Lib.hid hC
              clear hb hr hK hC hf
              have q1 : ev (.tmp 12) = .pointer (some ⟨gb, 0, none⟩) := e12
              have hld := run_loadVar_row (P := Try.prog) w' gb 31 31 (sxC y) (0, 0) _ (gro_old HC.out HXB.out (fun e => by rcases e with e | e; exact NB6.out e; exact NB7.out e)) Try.underlying31 rfl (by kernel_rfl)
              unfold Run
              rw [rely_load 31 _ rfl q1 hld]
              exact HK.out _ _ (.inl (Below.refl _ _)) rfl
            · refine ⟨rfl, ?_⟩
              refine (if_pos (by decide)).mpr ?_
              intro ev w' hC hc hf hb hr K hK
              have e11 : ev (.tmp 11) = _ := hb 11 (by kernel_rfl)
              have HK := Lib.hid hK
              have HC := Lib.hid hC
              clear hb hr hK hC hf
              unfold Run
              simp [execOp, Upon, go_sem, *]
              exact HK.out _ _ (.inl (Below.refl _ _)) rfl
            · refine ⟨rfl, ?_⟩
              refine (if_pos (by decide)).mpr ?_
              intro ev w' hC hc hf hb hr K hK
              have e13 : ev (.tmp 13) = _ := hb 13 (by kernel_rfl)
              have HK := Lib.hid hK
              have HC := Lib.hid hC
              clear hb hr hK hC hf
              unfold Run
              simp [execOp, Upon, go_sem, *]
              exact HK.out _ _ (.inl (Below.refl _ _)) rfl
            · refine ⟨rfl, ?_⟩
              refine (if_pos (by decide)).mpr ?_
              intro ev w' hC hc hf hb hr K hK
              have e76 := hr 2 _ rfl (by kernel_rfl)
              have e77 := hr 3 _ rfl (by kernel_rfl)
              change ev (.tmp 76) = _ at e76
              change ev (.tmp 77) = _ at e77
              have HK := Lib.hid hK
              have HC := Lib.hid hC
              clear hb hr hK hC hf
              unfold Run
              simp [execOp, Upon, go_sem, *]
              exact HK.out _ _ (.inl (Below.refl _ _)) rfl
            · refine ⟨rfl, ?_⟩
              refine (if_pos (by decide)).mpr ?_
              intro ev w' hC hc hf hb hr K hK
              have e6 : ev (.tmp 6) = _ := hb 6 (by kernel_rfl)
              have e74 := hr 0 _ rfl (by kernel_rfl)
              change ev (.tmp 74) = _ at e74
              have HK := Lib.hid hK
              have HC := Lib.hid hC
              clear hb hr hK hC hf
              have qp : ev (.tmp 6) = .pointer (some ⟨g6, 0, none⟩) := e6
              obtain ⟨O9, hO9, hs9⟩ := HC.out.shape g6 _ _ _ HX6.out
              have qv : ev (.tmp 74) = .agg (sqC (concS y) vD') := e74
              have hs8 : O9.size = ((sqC (concS y) vD') : Array Value).size := by rw [hs9]; rfl
              have hst := run_storeVar_row (P := Try.prog) w' g6 28 28 O9 (sqC (concS y) vD') hO9 (by kernel_rfl) hs8 H1.out
              unfold Run
              rw [rely_store 28 _ _ rfl qp qv hst]
              refine HK.out _ _ (.inr ⟨groD_set (D := (fun k => k = g6 ∨ k = g7)) (Gro.refl _) (.inl rfl) hO9 hs8, fun j hj u hr => ?_⟩) (setRow_heap _ _ _ _ _ _ hO9)
              rcases j with _ | _ | _ | _ | _ | _ | _ | _ | j
              · exact hr
              · exact hr
              · exact hr
              · exact hr
              · exact hr
              · exact absurd rfl hj
              · exact sto_set (u := u) hr (Ne.symm NE12.out)
              · exact hr
              · exact trivial
            · refine ⟨rfl, ?_⟩
              refine (if_pos (by decide)).mpr ?_
              intro ev w' hC hc hf hb hr K hK
              have e7 : ev (.tmp 7) = _ := hb 7 (by kernel_rfl)
              have e75 := hr 1 _ rfl (by kernel_rfl)
              change ev (.tmp 75) = _ at e75
              have HK := Lib.hid hK
              have HC := Lib.hid hC
              clear hb hr hK hC hf
              have qp : ev (.tmp 7) = .pointer (some ⟨g7, 0, none⟩) := e7
              obtain ⟨O9, hO9, hs9⟩ := HC.out.shape g7 _ _ _ HX7.out
              have qv : ev (.tmp 75) = .agg (sxC y) := e75
              have hs8 : O9.size = ((sxC y) : Array Value).size := by rw [hs9]; rfl
              have hst := run_storeVar_row (P := Try.prog) w' g7 31 31 O9 (sxC y) hO9 (by kernel_rfl) hs8 (sx_ones _)
              unfold Run
              rw [rely_store 31 _ _ rfl qp qv hst]
              refine HK.out _ _ (.inr ⟨groD_set (D := (fun k => k = g6 ∨ k = g7)) (Gro.refl _) (.inr (rfl)) hO9 hs8, fun j hj u hr => ?_⟩) (setRow_heap _ _ _ _ _ _ hO9)
              rcases j with _ | _ | _ | _ | _ | _ | _ | _ | j
              · exact hr
              · exact hr
              · exact hr
              · exact hr
              · exact hr
              · exact sto_set (u := u) hr NE12.out
              · exact absurd rfl hj
              · exact hr
              · exact trivial
            · refine ⟨rfl, ?_⟩
              refine (if_pos (by decide)).mpr ?_
              intro ev w' hC hc hf hb hr K hK
              have e78 := hr 4 _ rfl (by kernel_rfl)
              change ev (.tmp 78) = _ at e78
              have HK := Lib.hid hK
              have HC := Lib.hid hC
              clear hb hr hK hC hf
              unfold Run
              simp [execOp, Upon, go_sem, *]
              exact HK.out _ _ (.inl (Below.refl _ _)) rfl
          · exact rl_mono ⟨is_mono _, is_mono _, is_mono _, is_mono _, is_mono _, sto_mono _ _ _, sto_mono _ _ _, is_mono _, trivial⟩
          intro us wr hG hH
          obtain ⟨-, -, -, -, -, h5, h6, h7, -⟩ := hH
          simp only [fillM]
          change us 8 = _ at h7
          rw [h7]
          clear h7
          change (Sto g6 (sqC (concS y) vD') 28 : Pred) undef wr at h5
          change (Sto g7 (sxC y) 31 : Pred) undef wr at h6
          generalize us 74 = v74
          generalize us 75 = v75
          generalize us 76 = v76
          generalize us 77 = v77
          generalize us 78 = v78
          have HV1 : Hid (wr.heap[g6]? = some (.cells (sqC (concS y) vD') 28 (0, 0))) := h5
          clear h5
          have HV2 : Hid (wr.heap[g7]? = some (.cells (sxC y) 31 (0, 0))) := h6
          clear h6
          clear HX6 HX7 HXA HXB NA6 NA7 NB6 NB7 NE12
          have FE := Lib.hid (FD.out.put2 (i := 3) (j := 2) rfl rfl (by decide) hG HV1.out HV2.out)
          clear hG FD
          have HBE := Lib.hid FE.out.below
          go_wp2
          refine ret_cct (g := g6) (g2 := g7) rfl rfl rfl (t := 28) (fr := (0, 0)) (FE.out.at (i := 3) rfl) Try.underlying28 rfl (by kernel_rfl) (t2 := 31) (fr2 := (0, 0)) (FE.out.at (i := 2) rfl) Try.underlying31 rfl (by kernel_rfl) rfl ?_
          exact ⟨_, rfl, FE.out.hand (i := 0) rfl, HBE.out⟩
      · obtain ⟨g9, c9', cur0, e9, -⟩ := ownk_some HOF.out hk0
        injection e9 with e9 _ e9'
        subst e9 e9'
        obtain ⟨cur, hF, hc1, hc2⟩ := F1.out.own HB6.out HOF.out hk0
        have F5 : Hid (Frs S w w6 [(g9, cur, 5), (g7, Zsx, 31), (g6, #[.int .u32 0, .slice none 0 0, .int .i64 0, .bool false, .bool false, .bool false], 28), (g5, #[.int .i64 kd, .slice B k eb, .int .i64 nn, .int .i64 sz], 33), (g4, (sxC x), 31), (g3, (sqC (concS x) vD), 28)] [([.slice B k eb], [bytesD D]), ((sqC (concS x) vD).toList, sqD (concS x))]) := hF
        have HC1 : Hid (cur.toList.take k = cells (incL D 0)) := by
          show _ = _
          rw [incL_zero]
          exact hc1
        have HC2 := Lib.hid hc2
        clear hF hc1 hc2
        have HVO := Lib.hid (byt_own HOF.out HDK.out)
        clear HOF HB6 F1
        obtain ⟨o0, o1, o2, o3⟩ := four_at (F5.out.at (i := 3) rfl)
        go_wp2_with (refine wpList_load_row rfl 28 _ rfl g3 rfl 28 (sqC (concS x) vD) (0, 0) _ (F5.out.at (i := 5) rfl) Try.underlying28 rfl (by kernel_rfl) ?_)
        refine (HCA.out _ _ _ _ (F5.out.val (i := 1) rfl) HVO.out).mono ?_
        rintro e w7 ⟨cs', rfl, hr, hb⟩
        obtain ⟨vD', rfl, -, h1⟩ := sq_of hr
        have H1 := Lib.hid h1
        have F6 := Lib.hid (F5.out.res hb hr)
        clear h1 hr hb F5 o0 o1 o2 o3 HCA HVO
        obtain ⟨o0, o1, o2, o3⟩ := four_at (F6.out.at (i := 3) rfl)
        go_upto_region 5 with (first | (refine wpList_store_new rfl 28 _ _ rfl w7 #[.int .u32 0, .slice none 0 0, .int .i64 0, .bool false, .bool false, .bool false] (sqC (concS y) vD') rfl rfl (by kernel_rfl) rfl H1.out ?_) | go_in)
        have F7 := Lib.hid (F6.out.alloc (sqC (concS y) vD') 28)
        obtain ⟨ga, hga⟩ : ∃ g, w7.heap.size = g := ⟨_, rfl⟩
        rw [hga] at F7 ⊢
        change Code.wp _ _ _ _ (w7.alloc (.cells (sqC (concS y) vD') 28))
        generalize w7.alloc (.cells (sqC (concS y) vD') 28) = w8 at F7 ⊢
        clear F6 hga o0 o1 o2 o3
        obtain ⟨o0, o1, o2, o3⟩ := four_at (F7.out.at (i := 4) rfl)
        have hcv := byt_text (rvs_cons.1 (F7.out.val (i := 1) rfl)).1 w8 (Below.refl _ _)
        rw [show (.string ⟨D.toArray⟩ : Value) = txtV D from rfl] at hcv
        go_wp2_with (refine wpList_load_row rfl 31 _ rfl g4 rfl 31 (sxC x) (0, 0) _ (F7.out.at (i := 5) rfl) Try.underlying31 rfl (by kernel_rfl) ?_)
        refine (HCB.out _).mono ?_
        rintro e w9 ⟨rfl, hb⟩
        have F8 := Lib.hid (F7.out.call hb)
        clear hb F7 o0 o1 o2 o3 HCB hcv
        go_upto_region 6 with (first | (refine wpList_store_new rfl 31 _ _ rfl w9 Zsx (sxC y) rfl rfl (by kernel_rfl) rfl (sx_ones _) ?_) | go_in)
        have F9 := Lib.hid (F8.out.alloc (sxC y) 31)
        obtain ⟨gb, hgb⟩ : ∃ g, w9.heap.size = g := ⟨_, rfl⟩
        rw [hgb] at F9 ⊢
        change Code.wp _ _ _ _ (w9.alloc (.cells (sxC y) 31))
        generalize w9.alloc (.cells (sxC y) 31) = w10 at F9 ⊢
        clear F8 hgb
        go_wp2
        go_loopw [64] (fun t64 wr => ∃ (kk : Nat) (cu : Array Value), kk ≤ k ∧ t64 = .int .i64 (kk : Int) ∧ Hid (Frs S w wr [(gb, (sxC y), 31), (ga, (sqC (concS y) vD'), 28), (g9, cu, 5), (g7, Zsx, 31), (g6, #[.int .u32 0, .slice none 0 0, .int .i64 0, .bool false, .bool false, .bool false], 28), (g5, #[.int .i64 kd, .slice B k eb, .int .i64 nn, .int .i64 sz], 33), (g4, (sxC x), 31), (g3, (sqC (concS x) vD), 28)] [((sqC (concS y) vD').toList, sqD (concS y)), ([.slice B k eb], [bytesD D]), ((sqC (concS x) vD).toList, sqD (concS x))]) ∧ Hid (cu.toList.take k = cells (incL D kk)) ∧ Hid (k ≤ cu.size)) (fun t64 _ => k - (intOf t64).toNat)
        case atStart => exact ⟨0, cur, Nat.zero_le _, rfl, F9, HC1, HC2⟩
        case round =>
          clear F9 HC1 HC2
          obtain ⟨kk, cu, hkk, rfl, F11, HC1, HC2⟩ := hrel
          by_cases hks : kk < k
          · have hkD : kk < D.length := by rw [HDK.out]; exact hks
            have hcell : wr.cell? ⟨g9, kk, none⟩ = some (.int .u8 (D[kk].toNat : Int)) := by
              rw [cell_of_row _ _ _ _ _ _ (F11.out.at (i := 2) rfl)]
              exact byte_row HC1.out HDK.out hkD
            have hfz := frozen_of_row wr g9 kk cu _ (F11.out.at (i := 2) rfl)
            have HN1 := Lib.hid (byte_next HC1.out hkD)
            obtain ⟨xx, hxx⟩ : ∃ x, D[kk].toNat = x := ⟨_, rfl⟩
            have hxb : xx < 256 := by rw [← hxx]; exact D[kk].toNat_lt
            have hinc : (((D[kk] + 1).toNat : Nat) : Int) = IntKind.u8.wrap ((xx : Int) + 1) := by
              rw [IntKind.wrap_u8', UInt8.toNat_add, hxx]
              show ((_ : Nat) : Int) = _
              rw [show (1 : UInt8).toNat = 1 from rfl]
              omega
            rw [hinc] at HN1
            rw [hxx] at hcell
            have HS9 : Hid (wr.setCell ⟨g9, kk, none⟩ (.int .u8 (IntKind.u8.wrap ((xx : Int) + 1))) = wr.setRow g9 (cu.setIfInBounds kk (.int .u8 (IntKind.u8.wrap ((xx : Int) + 1))))) := setCell_eq_setRow wr g9 kk cu _ (0, 0) _ (F11.out.at (i := 2) rfl)
            have F12 := Lib.hid (F11.out.put (i := 2) rfl (cu.setIfInBounds kk (.int .u8 (IntKind.u8.wrap ((xx : Int) + 1)))))
            have HC3 : Hid (k ≤ (cu.setIfInBounds kk (.int .u8 (IntKind.u8.wrap ((xx : Int) + 1)))).size) := by
              show _ ≤ _
              rw [Array.size_setIfInBounds]
              exact HC2.out
            rw [← HS9.out] at F12
            clear hinc hxx HC1 HC2 F11 HS9 hkD
            go_wp2
            go_roundw
            case rel => exact ⟨kk + 1, _, by omega, by go_num, F12, HN1, HC3⟩
            case measure => simp [intOf]; omega
          · have hkn : ¬ (kk : Int) < (k : Int) := by omega
            have F12 : Hid (Frs S w wr [(gb, (sxC y), 31), (ga, (sqC (concS y) vD'), 28), (g7, Zsx, 31), (g6, #[.int .u32 0, .slice none 0 0, .int .i64 0, .bool false, .bool false, .bool false], 28), (g5, #[.int .i64 kd, .slice B k eb, .int .i64 nn, .int .i64 sz], 33), (g4, (sxC x), 31), (g3, (sqC (concS x) vD), 28)] [((sqC (concS y) vD').toList, sqD (concS y)), ([.slice B k eb], [bytesD D]), ((sqC (concS x) vD).toList, sqD (concS x))]) := Lib.hid (F11.out.cut 2 rfl)
            clear F11 HC1 HC2
            have FD : Hid (Frs S w wr [(gb, (sxC y), 31), (ga, (sqC (concS y) vD'), 28), (g7, Zsx, 31), (g6, #[.int .u32 0, .slice none 0 0, .int .i64 0, .bool false, .bool false, .bool false], 28), (g5, #[.int .i64 kd, .slice B k eb, .int .i64 nn, .int .i64 sz], 33), (g4, (sxC x), 31), (g3, (sqC (concS x) vD), 28)] [((sqC (concS y) vD').toList, sqD (concS y)), ([.slice B k eb], [bytesD D]), ((sqC (concS x) vD).toList, sqD (concS x))]) := F12
            clear F12
            have HX6 := Lib.hid (FD.out.at (i := 3) rfl)
            have HX7 := Lib.hid (FD.out.at (i := 2) rfl)
            have HXA := Lib.hid (FD.out.at (i := 1) rfl)
            have HXB := Lib.hid (FD.out.at (i := 0) rfl)
            have NE12 : Hid (g6 ≠ g7) := FD.out.ne (i := 3) (j := 2) rfl rfl (by decide)
            have NA6 : Hid (ga ≠ g6) := FD.out.ne (i := 1) (j := 3) rfl rfl (by decide)
            have NA7 : Hid (ga ≠ g7) := FD.out.ne (i := 1) (j := 2) rfl rfl (by decide)
            have NB6 : Hid (gb ≠ g6) := FD.out.ne (i := 0) (j := 3) rfl rfl (by decide)
            have NB7 : Hid (gb ≠ g7) := FD.out.ne (i := 0) (j := 2) rfl rfl (by decide)
            go_upto_region 11 with (fail)
            apply wp_region_relyQ (fun _ => true) (fun k => k = g6 ∨ k = g7) (RL [Is (.agg (sqC (concS y) vD')), Is (.agg (sxC y)), Is _, Is _, Is (.bool true), Sto g6 (sqC (concS y) vD') 28, Sto g7 (sxC y) 31, Is (.bool true)]) [false, false, false, false, false, false, false, false, true, false, false, false, false, false, false, false, false, false, false, false, false, false, false, false, false, false, false, false, false, false, false, false, false, false, false, false, false, false, false, false, false, false, false, false, false, false, false, false, false, false, false, false, false, false, false, false, false, false, false, false, false, false, false, false, false, false, false, false, false, false, false, false, false, false, true, true, true, true, true, false, false, false, false, false, false, false, false, false, false, false, false, false, false, false, false, false, false, false, false, false, false, false, false, false, false, false, false, false, false, false, false, false, false, false, false, false, false, false, false, false, false, false, false, false, false, false, false, false, false, false, false, false, false, false, false, false, false, false, false, false, false, false, false, false, false, false, false, false, false, false, false, false, false, false, false, false, false, false, false, false, false, false, false, false, false, false, false, false, false, false, false, false, false, false, false, false, false, false, false, false, false, false, false, false, false, false, false, false, false, false, false, false, false, false, false, false, false, false, false, false, false, false, false, false, false, false, false]
            · kernel_rfl
            · kernel_rfl
            · kernel_rfl
            · refine ⟨?_, ?_, ?_, ?_, ?_, ?_, ?_, ?_, trivial⟩
              · refine ⟨rfl, ?_⟩
                refine (if_pos (by decide)).mpr ?_
                intro ev w' hC hc hf hb hr K hK
                have e10 : ev (.tmp 10) = _ := hb 10 (by kernel_rfl)
                have HK := Lib.hid hK
                have HC := Lib.hid hC
                clear hb hr hK hC hf
                have q1 : ev (.tmp 10) = .pointer (some ⟨ga, 0, none⟩) := e10
                have hld := run_loadVar_row (P := Try.prog) w' ga 28 28 (sqC (concS y) vD') (0, 0) _ (gro_old HC.out HXA.out (fun e => by rcases e with e | e; exact NA6.out e; exact NA7.out e)) Try.underlying28 rfl (by kernel_rfl)
                unfold Run
                rw [rely_load 28 _ rfl q1 hld]
                exact HK.out _ _ (.inl (Below.refl _ _)) rfl
              · refine ⟨rfl, ?_⟩
                refine (if_pos (by decide)).mpr ?_
                intro ev w' hC hc hf hb hr K hK
                have e12 : ev (.tmp 12) = _ := hb 12 (by kernel_rfl)
                have HK := Lib.hid hK
                have HC := Lib.hid hC
                clear hb hr hK hC hf
                have q1 : ev (.tmp 12) = .pointer (some ⟨gb, 0, none⟩) := e12
                have hld := run_loadVar_row (P := Try.prog) w' gb 31 31 (sxC y) (0, 0) _ (gro_old HC.out HXB.out (fun e => by rcases e with e | e; exact NB6.out e; exact NB7.out e)) Try.underlying31 rfl (by kernel_rfl)
                unfold Run
                rw [rely_load 31 _ rfl q1 hld]
                exact HK.out _ _ (.inl (Below.refl _ _)) rfl
              · refine ⟨rfl, ?_⟩
                refine (if_pos (by decide)).mpr ?_
                intro ev w' hC hc hf hb hr K hK
                have e11 : ev (.tmp 11) = _ := hb 11 (by kernel_rfl)
                have HK := Lib.hid hK
                have HC := Lib.hid hC
                clear hb hr hK hC hf
                unfold Run
                simp [execOp, Upon, go_sem, *]
                exact HK.out _ _ (.inl (Below.refl _ _)) rfl
              · refine ⟨rfl, ?_⟩
                refine (if_pos (by decide)).mpr ?_
                intro ev w' hC hc hf hb hr K hK
                have e13 : ev (.tmp 13) = _ := hb 13 (by kernel_rfl)
                have HK := Lib.hid hK
                have HC := Lib.hid hC
                clear hb hr hK hC hf
                unfold Run
                simp [execOp, Upon, go_sem, *]
                exact HK.out _ _ (.inl (Below.refl _ _)) rfl
              · refine ⟨rfl, ?_⟩
                refine (if_pos (by decide)).mpr ?_
                intro ev w' hC hc hf hb hr K hK
                have e76 := hr 2 _ rfl (by kernel_rfl)
                have e77 := hr 3 _ rfl (by kernel_rfl)
                change ev (.tmp 76) = _ at e76
                change ev (.tmp 77) = _ at e77
                have HK := Lib.hid hK
                have HC := Lib.hid hC
                clear hb hr hK hC hf
                unfold Run
                simp [execOp, Upon, go_sem, *]
                exact HK.out _ _ (.inl (Below.refl _ _)) rfl
              · refine ⟨rfl, ?_⟩
                refine (if_pos (by decide)).mpr ?_
                intro ev w' hC hc hf hb hr K hK
                have e6 : ev (.tmp 6) = _ := hb 6 (by kernel_rfl)
                have e74 := hr 0 _ rfl (by kernel_rfl)
                change ev (.tmp 74) = _ at e74
                have HK := Lib.hid hK
                have HC := Lib.hid hC
                clear hb hr hK hC hf
                have qp : ev (.tmp 6) = .pointer (some ⟨g6, 0, none⟩) := e6
                obtain ⟨O9, hO9, hs9⟩ := HC.out.shape g6 _ _ _ HX6.out
                have qv : ev (.tmp 74) = .agg (sqC (concS y) vD') := e74
                have hs8 : O9.size = ((sqC (concS y) vD') : Array Value).size := by rw [hs9]; rfl
                have hst := run_storeVar_row (P := Try.prog) w' g6 28 28 O9 (sqC (concS y) vD') hO9 (by kernel_rfl) hs8 H1.out
                unfold Run
                rw [rely_store 28 _ _ rfl qp qv hst]
                refine HK.out _ _ (.inr ⟨groD_set (D := (fun k => k = g6 ∨ k = g7)) (Gro.refl _) (.inl rfl) hO9 hs8, fun j hj u hr => ?_⟩) (setRow_heap _ _ _ _ _ _ hO9)
                rcases j with _ | _ | _ | _ | _ | _ | _ | _ | j
                · exact hr
                · exact hr
                · exact hr
                · exact hr
                · exact hr
                · exact absurd rfl hj
                · exact sto_set (u := u) hr (Ne.symm NE12.out)
                · exact hr
                · exact trivial
              · refine ⟨rfl, ?_⟩
                refine (if_pos (by decide)).mpr ?_
                intro ev w' hC hc hf hb hr K hK
                have e7 : ev (.tmp 7) = _ := hb 7 (by kernel_rfl)
                have e75 := hr 1 _ rfl (by kernel_rfl)
                change ev (.tmp 75) = _ at e75
                have HK := Lib.hid hK
                have HC := Lib.hid hC
                clear hb hr hK hC hf
                have qp : ev (.tmp 7) = .pointer (some ⟨g7, 0, none⟩) := e7
                obtain ⟨O9, hO9, hs9⟩ := HC.out.shape g7 _ _ _ HX7.out
                have qv : ev (.tmp 75) = .agg (sxC y) := e75
                have hs8 : O9.size = ((sxC y) : Array Value).size := by rw [hs9]; rfl
                have hst := run_storeVar_row (P := Try.prog) w' g7 31 31 O9 (sxC y) hO9 (by kernel_rfl) hs8 (sx_ones _)
                unfold Run
                rw [rely_store 31 _ _ rfl qp qv hst]
                refine HK.out _ _ (.inr ⟨groD_set (D := (fun k => k = g6 ∨ k = g7)) (Gro.refl _) (.inr (rfl)) hO9 hs8, fun j hj u hr => ?_⟩) (setRow_heap _ _ _ _ _ _ hO9)
                rcases j with _ | _ | _ | _ | _ | _ | _ | _ | j
                · exact hr
                · exact hr
                · exact hr
                · exact hr
                · exact hr
                · exact sto_set (u := u) hr NE12.out
                · exact absurd rfl hj
                · exact hr
                · exact trivial
              · refine ⟨rfl, ?_⟩
                refine (if_pos (by decide)).mpr ?_
                intro ev w' hC hc hf hb hr K hK
                have e78 := hr 4 _ rfl (by kernel_rfl)
                change ev (.tmp 78) = _ at e78
                have HK := Lib.hid hK
                have HC := Lib.hid hC
                clear hb hr hK hC hf
                unfold Run
                simp [execOp, Upon, go_sem, *]
                exact HK.out _ _ (.inl (Below.refl _ _)) rfl
            · exact rl_mono ⟨is_mono _, is_mono _, is_mono _, is_mono _, is_mono _, sto_mono _ _ _, sto_mono _ _ _, is_mono _, trivial⟩
            intro us wr hG hH
            obtain ⟨-, -, -, -, -, h5, h6, h7, -⟩ := hH
            simp only [fillM]
            change us 8 = _ at h7
            rw [h7]
            clear h7
            change (Sto g6 (sqC (concS y) vD') 28 : Pred) undef wr at h5
            change (Sto g7 (sxC y) 31 : Pred) undef wr at h6
            generalize us 74 = v74
            generalize us 75 = v75
            generalize us 76 = v76
            generalize us 77 = v77
            generalize us 78 = v78
            have HV1 : Hid (wr.heap[g6]? = some (.cells (sqC (concS y) vD') 28 (0, 0))) := h5
            clear h5
            have HV2 : Hid (wr.heap[g7]? = some (.cells (sxC y) 31 (0, 0))) := h6
            clear h6
            clear HX6 HX7 HXA HXB NA6 NA7 NB6 NB7 NE12
            have FE := Lib.hid (FD.out.put2 (i := 3) (j := 2) rfl rfl (by decide) hG HV1.out HV2.out)
            clear hG FD
            have HBE := Lib.hid FE.out.below
            go_wp2
            refine ret_cct (g := g6) (g2 := g7) rfl rfl rfl (t := 28) (fr := (0, 0)) (FE.out.at (i := 3) rfl) Try.underlying28 rfl (by kernel_rfl) (t2 := 31) (fr2 := (0, 0)) (FE.out.at (i := 2) rfl) Try.underlying31 rfl (by kernel_rfl) rfl ?_
            exact ⟨_, rfl, FE.out.hand (i := 0) rfl, HBE.out⟩
  · as_aux_lemma =>
      have HY : Hid (y = nextS x nn sz) := by show _ = _; rw [HST.out, if_neg (by decide), if_pos (by decide)]
      obtain ⟨a, l, hV, hP⟩ := next_form x nn sz
      have HCA := Lib.hid (next18_any x (sqC (concS x) vD) _ nn sz w0 (F1.out.val (i := 1) rfl) HOX.out HN.out HSZ.out)
      have HCB := Lib.hid (fun w' => refnext_any x nn sz w' HOX.out HLX.out HN.out HSZ.out)
      rw [hV] at HCB
      rw [hP] at HCA
      rw [← HY.out] at HCA HCB
      generalize nextE x nn sz = en at HCA HCB
      generalize nextO x nn sz = ok at HCA HCB
      clear hV hP HST HY
      go_wp2_with (refine wpList_load_row rfl 28 _ rfl g3 rfl 28 (sqC (concS x) vD) (0, 0) _ (F1.out.at (i := 4) rfl) Try.underlying28 rfl (by kernel_rfl) ?_)
      refine HCA.out.mono ?_
      rintro e w6 ⟨cs', ps, rfl, hr, hp, hb⟩
      obtain ⟨vD', rfl, -, h1⟩ := sq_of hr
      obtain ⟨vP, rfl, hvP, h2⟩ := pc_of hp
      have H1 := Lib.hid h1
      have H2 := Lib.hid h2
      have F2 := Lib.hid ((F1.out.res hb hr).more F1.out (us := [vP]) (ds := [bytesD l]) (rvs_cons.2 ⟨hvP, rvs_nil⟩))
      clear h1 h2 hr hp hb hvP F1 o0 o1 o2 o3 HCA
      have F3 := Lib.hid ((F2.out.alloc #[.int .u32 0, .slice none 0 0, .int .i64 0, .bool false, .bool false, .bool false] 28).alloc #[.int .u32 0, .slice none 0 0] 46)
      rw [show (w6.alloc (.cells #[.int .u32 0, .slice none 0 0, .int .i64 0, .bool false, .bool false, .bool false] 28)).heap.size = w6.heap.size + 1 from by simp] at F3
      have F4 := Lib.hid (F3.out.put (i := 1) rfl (sqC (concS y) vD'))
      go_upto_region 15 with (first | (refine wpList_store_row rfl 28 _ _ rfl w6.heap.size (sqC (concS y) vD') rfl rfl 28 #[.int .u32 0, .slice none 0 0, .int .i64 0, .bool false, .bool false, .bool false] (F3.out.at (i := 1) rfl) (by kernel_rfl) rfl H1.out ?_) | (refine wpList_store_row rfl 46 _ _ rfl (w6.heap.size + 1) (#[.int .u32 a, vP] : Array Value) rfl rfl 46 #[.int .u32 0, .slice none 0 0] (F4.out.at (i := 0) rfl) (by kernel_rfl) rfl H2.out ?_) | go_in)
      have F5 := Lib.hid (F4.out.put (i := 0) rfl (#[.int .u32 a, vP] : Array Value))
      obtain ⟨ga, hga⟩ : ∃ g, w6.heap.size = g := ⟨_, rfl⟩
      obtain ⟨gp, hgp⟩ : ∃ g, ga + 1 = g := ⟨_, rfl⟩
      have F6 : Hid (Frs S w ((((w6.alloc (.cells #[.int .u32 0, .slice none 0 0, .int .i64 0, .bool false, .bool false, .bool false] 28)).alloc (.cells #[.int .u32 0, .slice none 0 0] 46)).setRow w6.heap.size (sqC (concS y) vD')).setRow (w6.heap.size + 1) (#[.int .u32 a, vP] : Array Value)) [(w6.heap.size + 1, (#[.int .u32 a, vP] : Array Value), 46), (w6.heap.size, (sqC (concS y) vD'), 28), (g7, Zsx, 31), (g6, #[.int .u32 0, .slice none 0 0, .int .i64 0, .bool false, .bool false, .bool false], 28), (g5, #[.int .i64 kd, .slice B k eb, .int .i64 nn, .int .i64 sz], 33), (g4, (sxC x), 31), (g3, (sqC (concS x) vD), 28)] [([vP], [bytesD l]), ((sqC (concS y) vD').toList, sqD (concS y)), ([.slice B k eb], [bytesD D]), ((sqC (concS x) vD).toList, sqD (concS x))]) := F5
      generalize (((w6.alloc (.cells #[.int .u32 0, .slice none 0 0, .int .i64 0, .bool false, .bool false, .bool false] 28)).alloc (.cells #[.int .u32 0, .slice none 0 0] 46)).setRow w6.heap.size (sqC (concS y) vD')).setRow (w6.heap.size + 1) (#[.int .u32 a, vP] : Array Value) = w7 at F6 ⊢
      rw [hga, hgp] at F6 ⊢
      clear F2 F3 F4 F5 hga hgp H2
      obtain ⟨o0, o1, o2, o3⟩ := four_at (F6.out.at (i := 4) rfl)
      go_wp2_with (refine wpList_load_row rfl 31 _ rfl g4 rfl 31 (sxC x) (0, 0) _ (F6.out.at (i := 5) rfl) Try.underlying31 rfl (by kernel_rfl) ?_)
      refine (HCB.out _).mono ?_
      rintro e w8 ⟨rfl, hb⟩
      have F7 := Lib.hid (F6.out.call hb)
      clear hb F6 o0 o1 o2 o3 HCB
      go_upto_region 16 with (first | (refine wpList_store_new rfl 31 _ _ rfl w8 Zsx (sxC y) rfl rfl (by kernel_rfl) rfl (sx_ones _) ?_) | go_in)
      have F8 := Lib.hid (F7.out.alloc (sxC y) 31)
      obtain ⟨gb, hgb⟩ : ∃ g, w8.heap.size = g := ⟨_, rfl⟩
      rw [hgb] at F8 ⊢
      change Code.wp _ _ _ _ (w8.alloc (.cells (sxC y) 31))
      generalize w8.alloc (.cells (sxC y) 31) = w9 at F8 ⊢
      clear F7 hgb
      have HX6 := Lib.hid (F8.out.at (i := 4) rfl)
      have HX7 := Lib.hid (F8.out.at (i := 3) rfl)
      have HXA := Lib.hid (F8.out.at (i := 2) rfl)
      have HXP := Lib.hid (F8.out.at (i := 1) rfl)
      have HXB := Lib.hid (F8.out.at (i := 0) rfl)
      have HPV := Lib.hid (F8.out.val (i := 0) rfl)
      have NE12 : Hid (g6 ≠ g7) := F8.out.ne (i := 4) (j := 3) rfl rfl (by decide)
      have NA6 : Hid (ga ≠ g6) := F8.out.ne (i := 2) (j := 4) rfl rfl (by decide)
      have NA7 : Hid (ga ≠ g7) := F8.out.ne (i := 2) (j := 3) rfl rfl (by decide)
      have NB6 : Hid (gb ≠ g6) := F8.out.ne (i := 0) (j := 4) rfl rfl (by decide)
      have NB7 : Hid (gb ≠ g7) := F8.out.ne (i := 0) (j := 3) rfl rfl (by decide)
      have NP6 : Hid (gp ≠ g6) := F8.out.ne (i := 1) (j := 4) rfl rfl (by decide)
      have NP7 : Hid (gp ≠ g7) := F8.out.ne (i := 1) (j := 3) rfl rfl (by decide)
      apply wp_region_relyQ (fun _ => true) (fun k => k = g6 ∨ k = g7) (RL [Is (.agg (sqC (concS y) vD')), Is (.agg (sxC y)), Is _, Is _, Is (.bool true), Is (.bool true), Is _, Is _, Is (.bool true), Is (.bool true), Is (.bool true), Is _, Is (vP), Is (.string ⟨l.toArray⟩), Is _, Is (.bool true), Is (.bool true), Is (.bool true), Is _, Is (.int .u32 a), Is _, Is (.bool true), Is (.bool true), Sto g6 (sqC (concS y) vD') 28, Sto g7 (sxC y) 31, Is (.bool true)]) [false, false, false, false, false, false, false, false, true, false, false, false, false, false, false, false, false, false, false, false, false, false, false, false, false, false, false, false, false, false, false, false, false, false, false, false, false, false, false, false, false, false, false, false, false, false, false, false, false, false, false, false, false, false, false, false, false, false, false, false, false, false, false, false, false, false, false, false, false, false, false, false, false, false, false, false, false, false, false, false, false, false, false, false, false, false, false, false, false, false, false, false, false, false, false, false, false, false, false, false, false, false, false, false, false, true, true, true, true, true, true, true, true, true, true, true, true, true, true, true, true, true, true, true, true, true, true, true, false, false, false, false, false, false, false, false, false, false, false, false, false, false, false, false, false, false, false, false, false, false, false, false, false, false, false, false, false, false, false, false, false, false, false, false, false, false, false, false, false, false, false, false, false, false, false, false, false, false, false, false, false, false, false, false, false, false, false, false, false, false, false, false, false, false, false, false, false, false, false, false, false, false, false, false, false, false, false]
      · kernel_rfl
      · kernel_rfl
      · kernel_rfl
      · refine ⟨?_, ?_, ?_, ?_, ?_, ?_, ?_, ?_, ?_, ?_, ?_, ?_, ?_, ?_, ?_, ?_, ?_, ?_, ?_, ?_, ?_, ?_, ?_, ?_, ?_, ?_, trivial⟩
        · refine ⟨rfl, ?_⟩
          refine (if_pos (by decide)).mpr ?_
          intro ev w' hC hc hf hb hr K hK
          have e15 : ev (.tmp 15) = _ := hb 15 (by kernel_rfl)
          have HK := Lib.hid hK
          have HC := Lib.hid hC
          clear hb hr hK hC hf
          have q1 : ev (.tmp 15) = .pointer (some ⟨ga, 0, none⟩) := e15
          have hld := run_loadVar_row (P := Try.prog) w' ga 28 28 (sqC (concS y) vD') (0, 0) _ (gro_old HC.out HXA.out (fun e => by rcases e with e | e; exact NA6.out e; exact NA7.out e)) Try.underlying28 rfl (by kernel_rfl)
          unfold Run
          rw [rely_load 28 _ rfl q1 hld]
          exact HK.out _ _ (.inl (Below.refl _ _)) rfl
        · refine ⟨rfl, ?_⟩
          refine (if_pos (by decide)).mpr ?_
          intro ev w' hC hc hf hb hr K hK
          have e19 : ev (.tmp 19) = _ := hb 19 (by kernel_rfl)
          have HK := Lib.hid hK
          have HC := Lib.hid hC
          clear hb hr hK hC hf
          have q1 : ev (.tmp 19) = .pointer (some ⟨gb, 0, none⟩) := e19
          have hld := run_loadVar_row (P := Try.prog) w' gb 31 31 (sxC y) (0, 0) _ (gro_old HC.out HXB.out (fun e => by rcases e with e | e; exact NB6.out e; exact NB7.out e)) Try.underlying31 rfl (by kernel_rfl)
          unfold Run
          rw [rely_load 31 _ rfl q1 hld]
          exact HK.out _ _ (.inl (Below.refl _ _)) rfl
        · refine ⟨rfl, ?_⟩
          refine (if_pos (by decide)).mpr ?_
          intro ev w' hC hc hf hb hr K hK
          have e18 : ev (.tmp 18) = _ := hb 18 (by kernel_rfl)
          have HK := Lib.hid hK
          have HC := Lib.hid hC
          clear hb hr hK hC hf
          unfold Run
          simp [execOp, Upon, go_sem, *]
          exact HK.out _ _ (.inl (Below.refl _ _)) rfl
        · refine ⟨rfl, ?_⟩
          refine (if_pos (by decide)).mpr ?_
          intro ev w' hC hc hf hb hr K hK
          have e23 : ev (.tmp 23) = _ := hb 23 (by kernel_rfl)
          have HK := Lib.hid hK
          have HC := Lib.hid hC
          clear hb hr hK hC hf
          unfold Run
          simp [execOp, Upon, go_sem, *]
          exact HK.out _ _ (.inl (Below.refl _ _)) rfl
        · refine ⟨rfl, ?_⟩
          refine (if_pos (by decide)).mpr ?_
          intro ev w' hC hc hf hb hr K hK
          have e107 := hr 2 _ rfl (by kernel_rfl)
          have e108 := hr 3 _ rfl (by kernel_rfl)
          change ev (.tmp 107) = _ at e107
          change ev (.tmp 108) = _ at e108
          have HK := Lib.hid hK
          have HC := Lib.hid hC
          clear hb hr hK hC hf
          unfold Run
          simp [execOp, Upon, go_sem, *]
          exact HK.out _ _ (.inl (Below.refl _ _)) rfl
        · refine ⟨rfl, ?_⟩
          refine (if_pos (by decide)).mpr ?_
          intro ev w' hC hc hf hb hr K hK
          have e109 := hr 4 _ rfl (by kernel_rfl)
          change ev (.tmp 109) = _ at e109
          have HK := Lib.hid hK
          have HC := Lib.hid hC
          clear hb hr hK hC hf
          unfold Run
          simp [execOp, Upon, go_sem, *]
          exact HK.out _ _ (.inl (Below.refl _ _)) rfl
        · refine ⟨⟨_, _, rfl, rfl, fun v w h => h⟩, ?_⟩
          refine (if_pos (by decide)).mpr ?_
          intro ev w' hC hc hf hb hr K hK
          have e17 : ev (.tmp 17) = _ := hb 17 (by kernel_rfl)
          have HK := Lib.hid hK
          have HC := Lib.hid hC
          clear hb hr hK hC hf
          unfold Run
          simp [execOp, Upon, go_sem, *]
          exact HK.out _ _ (.inl (Below.refl _ _)) rfl
        · refine ⟨⟨_, _, rfl, rfl, fun v w h => h⟩, ?_⟩
          refine (if_pos (by decide)).mpr ?_
          intro ev w' hC hc hf hb hr K hK
          have e22 : ev (.tmp 22) = _ := hb 22 (by kernel_rfl)
          have HK := Lib.hid hK
          have HC := Lib.hid hC
          clear hb hr hK hC hf
          unfold Run
          simp [execOp, Upon, go_sem, *]
          exact HK.out _ _ (.inl (Below.refl _ _)) rfl
        · refine ⟨⟨_, _, rfl, rfl, fun v w h => h⟩, ?_⟩
          refine (if_pos (by decide)).mpr ?_
          intro ev w' hC hc hf hb hr K hK
          have e111 := hr 6 _ rfl (by kernel_rfl)
          have e112 := hr 7 _ rfl (by kernel_rfl)
          change ev (.tmp 111) = _ at e111
          change ev (.tmp 112) = _ at e112
          have HK := Lib.hid hK
          have HC := Lib.hid hC
          clear hb hr hK hC hf
          unfold Run
          simp [execOp, Upon, go_sem, *]
          exact HK.out _ _ (.inl (Below.refl _ _)) rfl
        · refine ⟨rfl, ?_⟩
          refine (if_pos (by decide)).mpr ?_
          intro ev w' hC hc hf hb hr K hK
          have e110 := hr 5 _ rfl (by kernel_rfl)
          have e113 := hr 8 _ rfl (by kernel_rfl)
          change ev (.tmp 110) = _ at e110
          change ev (.tmp 113) = _ at e113
          have HK := Lib.hid hK
          have HC := Lib.hid hC
          clear hb hr hK hC hf
          unfold Run
          simp [execOp, Upon, go_sem, *]
          exact HK.out _ _ (.inl (Below.refl _ _)) rfl
        · refine ⟨rfl, ?_⟩
          refine (if_pos (by decide)).mpr ?_
          intro ev w' hC hc hf hb hr K hK
          have e114 := hr 9 _ rfl (by kernel_rfl)
          change ev (.tmp 114) = _ at e114
          have HK := Lib.hid hK
          have HC := Lib.hid hC
          clear hb hr hK hC hf
          unfold Run
          simp [execOp, Upon, go_sem, *]
          exact HK.out _ _ (.inl (Below.refl _ _)) rfl
        · refine ⟨⟨_, _, rfl, rfl, fun v w h => h⟩, ?_⟩
          refine (if_pos (by decide)).mpr ?_
          intro ev w' hC hc hf hb hr K hK
          have e16 : ev (.tmp 16) = _ := hb 16 (by kernel_rfl)
          have HK := Lib.hid hK
          have HC := Lib.hid hC
          clear hb hr hK hC hf
          unfold Run
          simp [execOp, Upon, go_sem, *]
          exact HK.out _ _ (.inl (Below.refl _ _)) rfl
        · refine ⟨⟨_, _, rfl, rfl, fun v w h => h⟩, ?_⟩
          refine (if_pos (by decide)).mpr ?_
          intro ev w' hC hc hf hb hr K hK
          have e116 := hr 11 _ rfl (by kernel_rfl)
          change ev (.tmp 116) = _ at e116
          have HK := Lib.hid hK
          have HC := Lib.hid hC
          clear hb hr hK hC hf
          have q1 : ev (.tmp 116) = .pointer (some ⟨gp, 1, none⟩) := e116
          have hld := run_loadVar_cell (P := Try.prog) w' ⟨gp, 1, none⟩ 26 (vP) _ ((cell_of_row _ _ _ _ _ _ (gro_old HC.out HXP.out (fun e => by rcases e with e | e; exact NP6.out e; exact NP7.out e))).trans rfl) Try.underlying26 rfl
          unfold Run
          rw [rely_load 26 _ rfl q1 hld]
          exact HK.out _ _ (.inl (Below.refl _ _)) rfl
        · refine ⟨⟨_, _, rfl, rfl, fun v w h => h⟩, ?_⟩
          refine (if_pos (by decide)).mpr ?_
          intro ev w' hC hc hf hb hr K hK
          have e117 := hr 12 _ rfl (by kernel_rfl)
          change ev (.tmp 117) = _ at e117
          have HK := Lib.hid hK
          have HC := Lib.hid hC
          clear hb hr hK hC hf
          have hcvx := byt_text (rvs_cons.1 (rvs_gro HPV.out HC.out (fun b hb e => hb.1 (by rcases e with e | e <;> simp [e])))).1 w' (Below.refl _ _)
          unfold Run
          simp [execOp, Upon, go_sem, *]
          exact HK.out _ _ (.inl (Below.refl _ _)) rfl
        · refine ⟨⟨_, _, rfl, rfl, fun v w h => h⟩, ?_⟩
          refine (if_pos (by decide)).mpr ?_
          intro ev w' hC hc hf hb hr K hK
          have e21 : ev (.tmp 21) = _ := hb 21 (by kernel_rfl)
          have HK := Lib.hid hK
          have HC := Lib.hid hC
          clear hb hr hK hC hf
          unfold Run
          simp [execOp, Upon, go_sem, *]
          exact HK.out _ _ (.inl (Below.refl _ _)) rfl
        · refine ⟨⟨_, _, rfl, rfl, fun v w h => h⟩, ?_⟩
          refine (if_pos (by decide)).mpr ?_
          intro ev w' hC hc hf hb hr K hK
          have e118 := hr 13 _ rfl (by kernel_rfl)
          have e119 := hr 14 _ rfl (by kernel_rfl)
          change ev (.tmp 118) = _ at e118
          change ev (.tmp 119) = _ at e119
          have HK := Lib.hid hK
          have HC := Lib.hid hC
          clear hb hr hK hC hf
          unfold Run
          simp [execOp, Upon, go_sem, *]
          exact HK.out _ _ (.inl (Below.refl _ _)) (congrArg Value.bool (beq_self_eq_true _))
        · refine ⟨rfl, ?_⟩
          refine (if_pos (by decide)).mpr ?_
          intro ev w' hC hc hf hb hr K hK
          have e115 := hr 10 _ rfl (by kernel_rfl)
          have e120 := hr 15 _ rfl (by kernel_rfl)
          change ev (.tmp 115) = _ at e115
          change ev (.tmp 120) = _ at e120
          have HK := Lib.hid hK
          have HC := Lib.hid hC
          clear hb hr hK hC hf
          unfold Run
          simp [execOp, Upon, go_sem, *]
          exact HK.out _ _ (.inl (Below.refl _ _)) rfl
        · refine ⟨rfl, ?_⟩
          refine (if_pos (by decide)).mpr ?_
          intro ev w' hC hc hf hb hr K hK
          have e121 := hr 16 _ rfl (by kernel_rfl)
          change ev (.tmp 121) = _ at e121
          have HK := Lib.hid hK
          have HC := Lib.hid hC
          clear hb hr hK hC hf
          unfold Run
          simp [execOp, Upon, go_sem, *]
          exact HK.out _ _ (.inl (Below.refl _ _)) rfl
        · refine ⟨⟨_, _, rfl, rfl, fun v w h => h⟩, ?_⟩
          refine (if_pos (by decide)).mpr ?_
          intro ev w' hC hc hf hb hr K hK
          have e16 : ev (.tmp 16) = _ := hb 16 (by kernel_rfl)
          have HK := Lib.hid hK
          have HC := Lib.hid hC
          clear hb hr hK hC hf
          unfold Run
          simp [execOp, Upon, go_sem, *]
          exact HK.out _ _ (.inl (Below.refl _ _)) rfl
        · refine ⟨⟨_, _, rfl, rfl, fun v w h => h⟩, ?_⟩
          refine (if_pos (by decide)).mpr ?_
          intro ev w' hC hc hf hb hr K hK
          have e123 := hr 18 _ rfl (by kernel_rfl)
          change ev (.tmp 123) = _ at e123
          have HK := Lib.hid hK
          have HC := Lib.hid hC
          clear hb hr hK hC hf
          have q1 : ev (.tmp 123) = .pointer (some ⟨gp, 0, none⟩) := e123
          have hld := run_loadVar_cell (P := Try.prog) w' ⟨gp, 0, none⟩ 22 (.int .u32 a) _ ((cell_of_row _ _ _ _ _ _ (gro_old HC.out HXP.out (fun e => by rcases e with e | e; exact NP6.out e; exact NP7.out e))).trans rfl) Try.underlying22 rfl
          unfold Run
          rw [rely_load 22 _ rfl q1 hld]
          exact HK.out _ _ (.inl (Below.refl _ _)) rfl
        · refine ⟨⟨_, _, rfl, rfl, fun v w h => h⟩, ?_⟩
          refine (if_pos (by decide)).mpr ?_
          intro ev w' hC hc hf hb hr K hK
          have e20 : ev (.tmp 20) = _ := hb 20 (by kernel_rfl)
          have HK := Lib.hid hK
          have HC := Lib.hid hC
          clear hb hr hK hC hf
          unfold Run
          simp [execOp, Upon, go_sem, *]
          exact HK.out _ _ (.inl (Below.refl _ _)) rfl
        · refine ⟨⟨_, _, rfl, rfl, fun v w h => h⟩, ?_⟩
          refine (if_pos (by decide)).mpr ?_
          intro ev w' hC hc hf hb hr K hK
          have e124 := hr 19 _ rfl (by kernel_rfl)
          have e125 := hr 20 _ rfl (by kernel_rfl)
          change ev (.tmp 124) = _ at e124
          change ev (.tmp 125) = _ at e125
          have HK := Lib.hid hK
          have HC := Lib.hid hC
          clear hb hr hK hC hf
          unfold Run
          simp [execOp, Upon, go_sem, *]
          exact HK.out _ _ (.inl (Below.refl _ _)) rfl
        · refine ⟨rfl, ?_⟩
          refine (if_pos (by decide)).mpr ?_
          intro ev w' hC hc hf hb hr K hK
          have e122 := hr 17 _ rfl (by kernel_rfl)
          have e126 := hr 21 _ rfl (by kernel_rfl)
          change ev (.tmp 122) = _ at e122
          change ev (.tmp 126) = _ at e126
          have HK := Lib.hid hK
          have HC := Lib.hid hC
          clear hb hr hK hC hf
          unfold Run
          simp [execOp, Upon, go_sem, *]
          exact HK.out _ _ (.inl (Below.refl _ _)) rfl
        · refine ⟨rfl, ?_⟩
          refine (if_pos (by decide)).mpr ?_
          intro ev w' hC hc hf hb hr K hK
          have e6 : ev (.tmp 6) = _ := hb 6 (by kernel_rfl)
          have e105 := hr 0 _ rfl (by kernel_rfl)
          change ev (.tmp 105) = _ at e105
          have HK := Lib.hid hK
          have HC := Lib.hid hC
          clear hb hr hK hC hf
          have qp : ev (.tmp 6) = .pointer (some ⟨g6, 0, none⟩) := e6
          obtain ⟨O9, hO9, hs9⟩ := HC.out.shape g6 _ _ _ HX6.out
          have qv : ev (.tmp 105) = .agg (sqC (concS y) vD') := e105
          have hs8 : O9.size = ((sqC (concS y) vD') : Array Value).size := by rw [hs9]; rfl
          have hst := run_storeVar_row (P := Try.prog) w' g6 28 28 O9 (sqC (concS y) vD') hO9 (by kernel_rfl) hs8 H1.out
          unfold Run
          rw [rely_store 28 _ _ rfl qp qv hst]
          refine HK.out _ _ (.inr ⟨groD_set (D := (fun k => k = g6 ∨ k = g7)) (Gro.refl _) (.inl rfl) hO9 hs8, fun j hj u hr => ?_⟩) (setRow_heap _ _ _ _ _ _ hO9)
          rcases j with _ | _ | _ | _ | _ | _ | _ | _ | _ | _ | _ | _ | _ | _ | _ | _ | _ | _ | _ | _ | _ | _ | _ | _ | _ | _ | j
          · exact hr
          · exact hr
          · exact hr
          · exact hr
          · exact hr
          · exact hr
          · exact hr
          · exact hr
          · exact hr
          · exact hr
          · exact hr
          · exact hr
          · exact hr
          · exact hr
          · exact hr
          · exact hr
          · exact hr
          · exact hr
          · exact hr
          · exact hr
          · exact hr
          · exact hr
          · exact hr
          · exact absurd rfl hj
          · exact sto_set (u := u) hr (Ne.symm NE12.out)
          · exact hr
          · exact trivial
        · refine ⟨rfl, ?_⟩
          refine (if_pos (by decide)).mpr ?_
          intro ev w' hC hc hf hb hr K hK
          have e7 : ev (.tmp 7) = _ := hb 7 (by kernel_rfl)
          have e106 := hr 1 _ rfl (by kernel_rfl)
          change ev (.tmp 106) = _ at e106
          have HK := Lib.hid hK
          have HC := Lib.hid hC
          clear hb hr hK hC hf
          have qp : ev (.tmp 7) = .pointer (some ⟨g7, 0, none⟩) := e7
          obtain ⟨O9, hO9, hs9⟩ := HC.out.shape g7 _ _ _ HX7.out
          have qv : ev (.tmp 106) = .agg (sxC y) := e106
          have hs8 : O9.size = ((sxC y) : Array Value).size := by rw [hs9]; rfl
          have hst := run_storeVar_row (P := Try.prog) w' g7 31 31 O9 (sxC y) hO9 (by kernel_rfl) hs8 (sx_ones _)
          unfold Run
          rw [rely_store 31 _ _ rfl qp qv hst]
          refine HK.out _ _ (.inr ⟨groD_set (D := (fun k => k = g6 ∨ k = g7)) (Gro.refl _) (.inr (rfl)) hO9 hs8, fun j hj u hr => ?_⟩) (setRow_heap _ _ _ _ _ _ hO9)
          rcases j with _ | _ | _ | _ | _ | _ | _ | _ | _ | _ | _ | _ | _ | _ | _ | _ | _ | _ | _ | _ | _ | _ | _ | _ | _ | _ | j
          · exact hr
          · exact hr
          · exact hr
          · exact hr
          · exact hr
          · exact hr
          · exact hr
          · exact hr
          · exact hr
          · exact hr
          · exact hr
          · exact hr
          · exact hr
          · exact hr
          · exact hr
          · exact hr
          · exact hr
          · exact hr
          · exact hr
          · exact hr
          · exact hr
          · exact hr
          · exact hr
          · exact sto_set (u := u) hr NE12.out
          · exact absurd rfl hj
          · exact hr
          · exact trivial
        · refine ⟨rfl, ?_⟩
          refine (if_pos (by decide)).mpr ?_
          intro ev w' hC hc hf hb hr K hK
          have e127 := hr 22 _ rfl (by kernel_rfl)
          change ev (.tmp 127) = _ at e127
          have HK := Lib.hid hK
          have HC := Lib.hid hC
          clear hb hr hK hC hf
          unfold Run
          simp [execOp, Upon, go_sem, *]
          exact HK.out _ _ (.inl (Below.refl _ _)) rfl
      · exact rl_mono ⟨is_mono _, is_mono _, is_mono _, is_mono _, is_mono _, is_mono _, is_mono _, is_mono _, is_mono _, is_mono _, is_mono _, is_mono _, is_mono _, is_mono _, is_mono _, is_mono _, is_mono _, is_mono _, is_mono _, is_mono _, is_mono _, is_mono _, is_mono _, sto_mono _ _ _, sto_mono _ _ _, is_mono _, trivial⟩
      intro us wr hG hH
      obtain ⟨-, -, -, -, -, -, -, -, -, -, -, -, -, -, -, -, -, -, -, -, -, -, -, h23, h24, h25, -⟩ := hH
      simp only [fillM]
      change us 8 = _ at h25
      rw [h25]
      clear h25
      change (Sto g6 (sqC (concS y) vD') 28 : Pred) undef wr at h23
      change (Sto g7 (sxC y) 31 : Pred) undef wr at h24
      generalize us 105 = v105
      generalize us 106 = v106
      generalize us 107 = v107
      generalize us 108 = v108
      generalize us 109 = v109
      generalize us 110 = v110
      generalize us 111 = v111
      generalize us 112 = v112
      generalize us 113 = v113
      generalize us 114 = v114
      generalize us 115 = v115
      generalize us 116 = v116
      generalize us 117 = v117
      generalize us 118 = v118
      generalize us 119 = v119
      generalize us 120 = v120
      generalize us 121 = v121
      generalize us 122 = v122
      generalize us 123 = v123
      generalize us 124 = v124
      generalize us 125 = v125
      generalize us 126 = v126
      generalize us 127 = v127
      have HV1 : Hid (wr.heap[g6]? = some (.cells (sqC (concS y) vD') 28 (0, 0))) := h23
      clear h23
      have HV2 : Hid (wr.heap[g7]? = some (.cells (sxC y) 31 (0, 0))) := h24
      clear h24
      clear HX6 HX7 HXA HXP HXB HPV NA6 NA7 NB6 NB7 NP6 NP7 NE12
      have FE := Lib.hid (F8.out.put2 (i := 4) (j := 3) rfl rfl (by decide) hG HV1.out HV2.out)
      clear hG F8
      have HBE := Lib.hid FE.out.below
      go_wp2
      refine ret_cct (g := g6) (g2 := g7) rfl rfl rfl (t := 28) (fr := (0, 0)) (FE.out.at (i := 4) rfl) Try.underlying28 rfl (by kernel_rfl) (t2 := 31) (fr2 := (0, 0)) (FE.out.at (i := 3) rfl) Try.underlying31 rfl (by kernel_rfl) rfl ?_
      exact ⟨_, rfl, FE.out.hand (i := 1) rfl, HBE.out⟩
  · as_aux_lemma =>
      have HY : Hid (y = nextS x nn sz) := by show _ = _; rw [HST.out, if_neg (by decide), if_pos (by decide)]
      obtain ⟨a, l, hV, hP⟩ := next_form x nn sz
      have HCA := Lib.hid (next18_any x (sqC (concS x) vD) _ nn sz w0 (F1.out.val (i := 1) rfl) HOX.out HN.out HSZ.out)
      have HCB := Lib.hid (fun w' => refnext_any x nn sz w' HOX.out HLX.out HN.out HSZ.out)
      rw [hV] at HCB
      rw [hP] at HCA
      rw [← HY.out] at HCA HCB
      generalize nextE x nn sz = en at HCA HCB
      generalize nextO x nn sz = ok at HCA HCB
      clear hV hP HST HY
      go_wp2_with (refine wpList_load_row rfl 28 _ rfl g3 rfl 28 (sqC (concS x) vD) (0, 0) _ (F1.out.at (i := 4) rfl) Try.underlying28 rfl (by kernel_rfl) ?_)
      refine HCA.out.mono ?_
      rintro e w6 ⟨cs', ps, rfl, hr, hp, hb⟩
      obtain ⟨vD', rfl, -, h1⟩ := sq_of hr
      obtain ⟨vP, rfl, hvP, h2⟩ := pc_of hp
      have H1 := Lib.hid h1
      have H2 := Lib.hid h2
      have F2 := Lib.hid ((F1.out.res hb hr).more F1.out (us := [vP]) (ds := [bytesD l]) (rvs_cons.2 ⟨hvP, rvs_nil⟩))
      clear h1 h2 hr hp hb hvP F1 o0 o1 o2 o3 HCA
      have F3 := Lib.hid ((F2.out.alloc #[.int .u32 0, .slice none 0 0, .int .i64 0, .bool false, .bool false, .bool false] 28).alloc #[.int .u32 0, .slice none 0 0] 46)
      rw [show (w6.alloc (.cells #[.int .u32 0, .slice none 0 0, .int .i64 0, .bool false, .bool false, .bool false] 28)).heap.size = w6.heap.size + 1 from by simp] at F3
      have F4 := Lib.hid (F3.out.put (i := 1) rfl (sqC (concS y) vD'))
      go_upto_region 15 with (first | (refine wpList_store_row rfl 28 _ _ rfl w6.heap.size (sqC (concS y) vD') rfl rfl 28 #[.int .u32 0, .slice none 0 0, .int .i64 0, .bool false, .bool false, .bool false] (F3.out.at (i := 1) rfl) (by kernel_rfl) rfl H1.out ?_) | (refine wpList_store_row rfl 46 _ _ rfl (w6.heap.size + 1) (#[.int .u32 a, vP] : Array Value) rfl rfl 46 #[.int .u32 0, .slice none 0 0] (F4.out.at (i := 0) rfl) (by kernel_rfl) rfl H2.out ?_) | go_in)
      have F5 := Lib.hid (F4.out.put (i := 0) rfl (#[.int .u32 a, vP] : Array Value))
      obtain ⟨ga, hga⟩ : ∃ g, w6.heap.size = g := ⟨_, rfl⟩
      obtain ⟨gp, hgp⟩ : ∃ g, ga + 1 = g := ⟨_, rfl⟩
      have F6 : Hid (Frs S w ((((w6.alloc (.cells #[.int .u32 0, .slice none 0 0, .int .i64 0, .bool false, .bool false, .bool false] 28)).alloc (.cells #[.int .u32 0, .slice none 0 0] 46)).setRow w6.heap.size (sqC (concS y) vD')).setRow (w6.heap.size + 1) (#[.int .u32 a, vP] : Array Value)) [(w6.heap.size + 1, (#[.int .u32 a, vP] : Array Value), 46), (w6.heap.size, (sqC (concS y) vD'), 28), (g7, Zsx, 31), (g6, #[.int .u32 0, .slice none 0 0, .int .i64 0, .bool false, .bool false, .bool false], 28), (g5, #[.int .i64 kd, .slice B k eb, .int .i64 nn, .int .i64 sz], 33), (g4, (sxC x), 31), (g3, (sqC (concS x) vD), 28)] [([vP], [bytesD l]), ((sqC (concS y) vD').toList, sqD (concS y)), ([.slice B k eb], [bytesD D]), ((sqC (concS x) vD).toList, sqD (concS x))]) := F5
      generalize (((w6.alloc (.cells #[.int .u32 0, .slice none 0 0, .int .i64 0, .bool false, .bool false, .bool false] 28)).alloc (.cells #[.int .u32 0, .slice none 0 0] 46)).setRow w6.heap.size (sqC (concS y) vD')).setRow (w6.heap.size + 1) (#[.int .u32 a, vP] : Array Value) = w7 at F6 ⊢
      rw [hga, hgp] at F6 ⊢
      clear F2 F3 F4 F5 hga hgp H2
      obtain ⟨o0, o1, o2, o3⟩ := four_at (F6.out.at (i := 4) rfl)
      go_wp2_with (refine wpList_load_row rfl 31 _ rfl g4 rfl 31 (sxC x) (0, 0) _ (F6.out.at (i := 5) rfl) Try.underlying31 rfl (by kernel_rfl) ?_)
      refine (HCB.out _).mono ?_
      rintro e w8 ⟨rfl, hb⟩
      have F7 := Lib.hid (F6.out.call hb)
      clear hb F6 o0 o1 o2 o3 HCB
      go_upto_region 16 with (first | (refine wpList_store_new rfl 31 _ _ rfl w8 Zsx (sxC y) rfl rfl (by kernel_rfl) rfl (sx_ones _) ?_) | go_in)
      have F8 := Lib.hid (F7.out.alloc (sxC y) 31)
      obtain ⟨gb, hgb⟩ : ∃ g, w8.heap.size = g := ⟨_, rfl⟩
      rw [hgb] at F8 ⊢
      change Code.wp _ _ _ _ (w8.alloc (.cells (sxC y) 31))
      generalize w8.alloc (.cells (sxC y) 31) = w9 at F8 ⊢
      clear F7 hgb
      have HX6 := Lib.hid (F8.out.at (i := 4) rfl)
      have HX7 := Lib.hid (F8.out.at (i := 3) rfl)
      have HXA := Lib.hid (F8.out.at (i := 2) rfl)
      have HXP := Lib.hid (F8.out.at (i := 1) rfl)
      have HXB := Lib.hid (F8.out.at (i := 0) rfl)
      have HPV := Lib.hid (F8.out.val (i := 0) rfl)
      have NE12 : Hid (g6 ≠ g7) := F8.out.ne (i := 4) (j := 3) rfl rfl (by decide)
      have NA6 : Hid (ga ≠ g6) := F8.out.ne (i := 2) (j := 4) rfl rfl (by decide)
      have NA7 : Hid (ga ≠ g7) := F8.out.ne (i := 2) (j := 3) rfl rfl (by decide)
      have NB6 : Hid (gb ≠ g6) := F8.out.ne (i := 0) (j := 4) rfl rfl (by decide)
      have NB7 : Hid (gb ≠ g7) := F8.out.ne (i := 0) (j := 3) rfl rfl (by decide)
      have NP6 : Hid (gp ≠ g6) := F8.out.ne (i := 1) (j := 4) rfl rfl (by decide)
      have NP7 : Hid (gp ≠ g7) := F8.out.ne (i := 1) (j := 3) rfl rfl (by decide)
      apply wp_region_relyQ (fun _ => true) (fun k => k = g6 ∨ k = g7) (RL [Is (.agg (sqC (concS y) vD')), Is (.agg (sxC y)), Is _, Is _, Is (.bool true), Is (.bool true), Is _, Is _, Is (.bool true), Is (.bool true), Is (.bool true), Is _, Is (vP), Is (.string ⟨l.toArray⟩), Is _, Is (.bool true), Is (.bool true), Is (.bool true), Is _, Is (.int .u32 a), Is _, Is (.bool true), Is (.bool true), Sto g6 (sqC (concS y) vD') 28, Sto g7 (sxC y) 31, Is (.bool true)]) [false, false, false, false, false, false, false, false, true, false, false, false, false, false, false, false, false, false, false, false, false, false, false, false, false, false, false, false, false, false, false, false, false, false, false, false, false, false, false, false, false, false, false, false, false, false, false, false, false, false, false, false, false, false, false, false, false, false, false, false, false, false, false, false, false, false, false, false, false, false, false, false, false, false, false, false, false, false, false, false, false, false, false, false, false, false, false, false, false, false, false, false, false, false, false, false, false, false, false, false, false, false, false, false, false, true, true, true, true, true, true, true, true, true, true, true, true, true, true, true, true, true, true, true, true, true, true, true, false, false, false, false, false, false, false, false, false, false, false, false, false, false, false, false, false, false, false, false, false, false, false, false, false, false, false, false, false, false, false, false, false, false, false, false, false, false, false, false, false, false, false, false, false, false, false, false, false, false, false, false, false, false, false, false, false, false, false, false, false, false, false, false, false, false, false, false, false, false, false, false, false, false, false, false, false, false, false]
      · kernel_rfl
      · kernel_rfl
      · kernel_rfl
      · refine ⟨?_, ?_, ?_, ?_, ?_, ?_, ?_, ?_, ?_, ?_, ?_, ?_, ?_, ?_, ?_, ?_, ?_, ?_, ?_, ?_, ?_, ?_, ?_, ?_, ?_, ?_, trivial⟩
        · refine ⟨rfl, ?_⟩
          refine (if_pos (by decide)).mpr ?_
          intro ev w' hC hc hf hb hr K hK
          have e15 : ev (.tmp 15) = _ := hb 15 (by kernel_rfl)
          have HK := Lib.hid hK
          have HC := Lib.hid hC
          clear hb hr hK hC hf
          have q1 : ev (.tmp 15) = .pointer (some ⟨ga, 0, none⟩) := e15
          have hld := run_loadVar_row (P := Try.prog) w' ga 28 28 (sqC (concS y) vD') (0, 0) _ (gro_old HC.out HXA.out (fun e => by rcases e with e | e; exact NA6.out e; exact NA7.out e)) Try.underlying28 rfl (by kernel_rfl)
          unfold Run
          rw [rely_load 28 _ rfl q1 hld]
          exact HK.out _ _ (.inl (Below.refl _ _)) rfl
        · refine ⟨rfl, ?_⟩
          refine (if_pos (by decide)).mpr ?_
          intro ev w' hC hc hf hb hr K hK
          have e19 : ev (.tmp 19) = _ := hb 19 (by kernel_rfl)
          have HK := Lib.hid hK
          have HC := Lib.hid hC
          clear hb hr hK hC hf
          have q1 : ev (.tmp 19) = .pointer (some ⟨gb, 0, none⟩) := e19
          have hld := run_loadVar_row (P := Try.prog) w' gb 31 31 (sxC y) (0, 0) _ (gro_old HC.out HXB.out (fun e => by rcases e with e | e; exact NB6.out e; exact NB7.out e)) Try.underlying31 rfl (by kernel_rfl)
          unfold Run
          rw [rely_load 31 _ rfl q1 hld]
          exact HK.out _ _ (.inl (Below.refl _ _)) rfl
        · refine ⟨rfl, ?_⟩
          refine (if_pos (by decide)).mpr ?_
          intro ev w' hC hc hf hb hr K hK
          have e18 : ev (.tmp 18) = _ := hb 18 (by kernel_rfl)
          have HK := Lib.hid hK
          have HC := Lib.hid hC
          clear hb hr hK hC hf
          unfold Run
          simp [execOp, Upon, go_sem, *]
          exact HK.out _ _ (.inl (Below.refl _ _)) rfl
        · refine ⟨rfl, ?_⟩
          refine (if_pos (by decide)).mpr ?_
          intro ev w' hC hc hf hb hr K hK
          have e23 : ev (.tmp 23) = _ := hb 23 (by kernel_rfl)
          have HK := Lib.hid hK
          have HC := Lib.hid hC
          clear hb hr hK hC hf
          unfold Run
          simp [execOp, Upon, go_sem, *]
          exact HK.out _ _ (.inl (Below.refl _ _)) rfl
        · refine ⟨rfl, ?_⟩
          refine (if_pos (by decide)).mpr ?_
          intro ev w' hC hc hf hb hr K hK
          have e107 := hr 2 _ rfl (by kernel_rfl)
          have e108 := hr 3 _ rfl (by kernel_rfl)
          change ev (.tmp 107) = _ at e107
          change ev (.tmp 108) = _ at e108
          have HK := Lib.hid hK
          have HC := Lib.hid hC
          clear hb hr hK hC hf
          unfold Run
          simp [execOp, Upon, go_sem, *]
          exact HK.out _ _ (.inl (Below.refl _ _)) rfl
        · refine ⟨rfl, ?_⟩
          refine (if_pos (by decide)).mpr ?_
          intro ev w' hC hc hf hb hr K hK
          have e109 := hr 4 _ rfl (by kernel_rfl)
          change ev (.tmp 109) = _ at e109
          have HK := Lib.hid hK
          have HC := Lib.hid hC
          clear hb hr hK hC hf
          unfold Run
          simp [execOp, Upon, go_sem, *]
          exact HK.out _ _ (.inl (Below.refl _ _)) rfl
        · refine ⟨⟨_, _, rfl, rfl, fun v w h => h⟩, ?_⟩
          refine (if_pos (by decide)).mpr ?_
          intro ev w' hC hc hf hb hr K hK
          have e17 : ev (.tmp 17) = _ := hb 17 (by kernel_rfl)
          have HK := Lib.hid hK
          have HC := Lib.hid hC
          clear hb hr hK hC hf
          unfold Run
          simp [execOp, Upon, go_sem, *]
          exact HK.out _ _ (.inl (Below.refl _ _)) rfl
        · refine ⟨⟨_, _, rfl, rfl, fun v w h => h⟩, ?_⟩
          refine (if_pos (by decide)).mpr ?_
          intro ev w' hC hc hf hb hr K hK
          have e22 : ev (.tmp 22) = _ := hb 22 (by kernel_rfl)
          have HK := Lib.hid hK
          have HC := Lib.hid hC
          clear hb hr hK hC hf
          unfold Run
          simp [execOp, Upon, go_sem, *]
          exact HK.out _ _ (.inl (Below.refl _ _)) rfl
        · refine ⟨⟨_, _, rfl, rfl, fun v w h => h⟩, ?_⟩
          refine (if_pos (by decide)).mpr ?_
          intro ev w' hC hc hf hb hr K hK
          have e111 := hr 6 _ rfl (by kernel_rfl)
          have e112 := hr 7 _ rfl (by kernel_rfl)
          change ev (.tmp 111) = _ at e111
          change ev (.tmp 112) = _ at e112
          have HK := Lib.hid hK
          have HC := Lib.hid hC
          clear hb hr hK hC hf
          unfold Run
          simp [execOp, Upon, go_sem, *]
          exact HK.out _ _ (.inl (Below.refl _ _)) rfl
        · refine ⟨rfl, ?_⟩
          refine (if_pos (by decide)).mpr ?_
          intro ev w' hC hc hf hb hr K hK
          have e110 := hr 5 _ rfl (by kernel_rfl)
          have e113 := hr 8 _ rfl (by kernel_rfl)
          change ev (.tmp 110) = _ at e110
          change ev (.tmp 113) = _ at e113
          have HK := Lib.hid hK
          have HC := Lib.hid hC
          clear hb hr hK hC hf
          unfold Run
          simp [execOp, Upon, go_sem, *]
          exact HK.out _ _ (.inl (Below.refl _ _)) rfl
        · refine ⟨rfl, ?_⟩
          refine (if_pos (by decide)).mpr ?_
          intro ev w' hC hc hf hb hr K hK
          have e114 := hr 9 _ rfl (by kernel_rfl)
          change ev (.tmp 114) = _ at e114
          have HK := Lib.hid hK
          have HC := Lib.hid hC
          clear hb hr hK hC hf
          unfold Run
          simp [execOp, Upon, go_sem, *]
          exact HK.out _ _ (.inl (Below.refl _ _)) rfl
        · refine ⟨⟨_, _, rfl, rfl, fun v w h => h⟩, ?_⟩
          refine (if_pos (by decide)).mpr ?_
          intro ev w' hC hc hf hb hr K hK
          have e16 : ev (.tmp 16) = _ := hb 16 (by kernel_rfl)
          have HK := Lib.hid hK
          have HC := Lib.hid hC
          clear hb hr hK hC hf
          unfold Run
          simp [execOp, Upon, go_sem, *]
          exact HK.out _ _ (.inl (Below.refl _ _)) rfl
        · refine ⟨⟨_, _, rfl, rfl, fun v w h => h⟩, ?_⟩
          refine (if_pos (by decide)).mpr ?_
          intro ev w' hC hc hf hb hr K hK
          have e116 := hr 11 _ rfl (by kernel_rfl)
          change ev (.tmp 116) = _ at e116
          have HK := Lib.hid hK
          have HC := Lib.hid hC
          clear hb hr hK hC hf
          have q1 : ev (.tmp 116) = .pointer (some ⟨gp, 1, none⟩) := e116
          have hld := run_loadVar_cell (P := Try.prog) w' ⟨gp, 1, none⟩ 26 (vP) _ ((cell_of_row _ _ _ _ _ _ (gro_old HC.out HXP.out (fun e => by rcases e with e | e; exact NP6.out e; exact NP7.out e))).trans rfl) Try.underlying26 rfl
          unfold Run
          rw [rely_load 26 _ rfl q1 hld]
          exact HK.out _ _ (.inl (Below.refl _ _)) rfl
        · refine ⟨⟨_, _, rfl, rfl, fun v w h => h⟩, ?_⟩
          refine (if_pos (by decide)).mpr ?_
          intro ev w' hC hc hf hb hr K hK
          have e117 := hr 12 _ rfl (by kernel_rfl)
          change ev (.tmp 117) = _ at e117
          have HK := Lib.hid hK
          have HC := Lib.hid hC
          clear hb hr hK hC hf
          have hcvx := byt_text (rvs_cons.1 (rvs_gro HPV.out HC.out (fun b hb e => hb.1 (by rcases e with e | e <;> simp [e])))).1 w' (Below.refl _ _)
          unfold Run
          simp [execOp, Upon, go_sem, *]
          exact HK.out _ _ (.inl (Below.refl _ _)) rfl
        · refine ⟨⟨_, _, rfl, rfl, fun v w h => h⟩, ?_⟩
          refine (if_pos (by decide)).mpr ?_
          intro ev w' hC hc hf hb hr K hK
          have e21 : ev (.tmp 21) = _ := hb 21 (by kernel_rfl)
          have HK := Lib.hid hK
          have HC := Lib.hid hC
          clear hb hr hK hC hf
          unfold Run
          simp [execOp, Upon, go_sem, *]
          exact HK.out _ _ (.inl (Below.refl _ _)) rfl
        · refine ⟨⟨_, _, rfl, rfl, fun v w h => h⟩, ?_⟩
          refine (if_pos (by decide)).mpr ?_
          intro ev w' hC hc hf hb hr K hK
          have e118 := hr 13 _ rfl (by kernel_rfl)
          have e119 := hr 14 _ rfl (by kernel_rfl)
          change ev (.tmp 118) = _ at e118
          change ev (.tmp 119) = _ at e119
          have HK := Lib.hid hK
          have HC := Lib.hid hC
          clear hb hr hK hC hf
          unfold Run
          simp [execOp, Upon, go_sem, *]
          exact HK.out _ _ (.inl (Below.refl _ _)) (congrArg Value.bool (beq_self_eq_true _))
        · refine ⟨rfl, ?_⟩
          refine (if_pos (by decide)).mpr ?_
          intro ev w' hC hc hf hb hr K hK
          have e115 := hr 10 _ rfl (by kernel_rfl)
          have e120 := hr 15 _ rfl (by kernel_rfl)
          change ev (.tmp 115) = _ at e115
          change ev (.tmp 120) = _ at e120
          have HK := Lib.hid hK
          have HC := Lib.hid hC
          clear hb hr hK hC hf
          unfold Run
          simp [execOp, Upon, go_sem, *]
          exact HK.out _ _ (.inl (Below.refl _ _)) rfl
        · refine ⟨rfl, ?_⟩
          refine (if_pos (by decide)).mpr ?_
          intro ev w' hC hc hf hb hr K hK
          have e121 := hr 16 _ rfl (by kernel_rfl)
          change ev (.tmp 121) = _ at e121
          have HK := Lib.hid hK
          have HC := Lib.hid hC
          clear hb hr hK hC hf
          unfold Run
          simp [execOp, Upon, go_sem, *]
          exact HK.out _ _ (.inl (Below.refl _ _)) rfl
        · refine ⟨⟨_, _, rfl, rfl, fun v w h => h⟩, ?_⟩
          refine (if_pos (by decide)).mpr ?_
          intro ev w' hC hc hf hb hr K hK
          have e16 : ev (.tmp 16) = _ := hb 16 (by kernel_rfl)
          have HK := Lib.hid hK
          have HC := Lib.hid hC
          clear hb hr hK hC hf
          unfold Run
          simp [execOp, Upon, go_sem, *]
          exact HK.out _ _ (.inl (Below.refl _ _)) rfl
        · refine ⟨⟨_, _, rfl, rfl, fun v w h => h⟩, ?_⟩
          refine (if_pos (by decide)).mpr ?_
          intro ev w' hC hc hf hb hr K hK
          have e123 := hr 18 _ rfl (by kernel_rfl)
          change ev (.tmp 123) = _ at e123
          have HK := Lib.hid hK
          have HC := Lib.hid hC
          clear hb hr hK hC hf
          have q1 : ev (.tmp 123) = .pointer (some ⟨gp, 0, none⟩) := e123
          have hld := run_loadVar_cell (P := Try.prog) w' ⟨gp, 0, none⟩ 22 (.int .u32 a) _ ((cell_of_row _ _ _ _ _ _ (gro_old HC.out HXP.out (fun e => by rcases e with e | e; exact NP6.out e; exact NP7.out e))).trans rfl) Try.underlying22 rfl
          unfold Run
          rw [rely_load 22 _ rfl q1 hld]
          exact HK.out _ _ (.inl (Below.refl _ _)) rfl
        · refine ⟨⟨_, _, rfl, rfl, fun v w h => h⟩, ?_⟩
          refine (if_pos (by decide)).mpr ?_
          intro ev w' hC hc hf hb hr K hK
          have e20 : ev (.tmp 20) = _ := hb 20 (by kernel_rfl)
          have HK := Lib.hid hK
          have HC := Lib.hid hC
          clear hb hr hK hC hf
          unfold Run
          simp [execOp, Upon, go_sem, *]
          exact HK.out _ _ (.inl (Below.refl _ _)) rfl
        · refine ⟨⟨_, _, rfl, rfl, fun v w h => h⟩, ?_⟩
          refine (if_pos (by decide)).mpr ?_
          intro ev w' hC hc hf hb hr K hK
          have e124 := hr 19 _ rfl (by kernel_rfl)
          have e125 := hr 20 _ rfl (by kernel_rfl)
          change ev (.tmp 124) = _ at e124
          change ev (.tmp 125) = _ at e125
          have HK := Lib.hid hK
          have HC := Lib.hid hC
          clear hb hr hK hC hf
          unfold Run
          simp [execOp, Upon, go_sem, *]
          exact HK.out _ _ (.inl (Below.refl _ _)) rfl
        · refine ⟨rfl, ?_⟩
          refine (if_pos (by decide)).mpr ?_
          intro ev w' hC hc hf hb hr K hK
          have e122 := hr 17 _ rfl (by kernel_rfl)
          have e126 := hr 21 _ rfl (by kernel_rfl)
          change ev (.tmp 122) = _ at e122
          change ev (.tmp 126) = _ at e126
          have HK := Lib.hid hK
          have HC := Lib.hid hC
          clear hb hr hK hC hf
          unfold Run
          simp [execOp, Upon, go_sem, *]
          exact HK.out _ _ (.inl (Below.refl _ _)) rfl
        · refine ⟨rfl, ?_⟩
          refine (if_pos (by decide)).mpr ?_
          intro ev w' hC hc hf hb hr K hK
          have e6 : ev (.tmp 6) = _ := hb 6 (by kernel_rfl)
          have e105 := hr 0 _ rfl (by kernel_rfl)
          change ev (.tmp 105) = _ at e105
          have HK := Lib.hid hK
          have HC := Lib.hid hC
          clear hb hr hK hC hf
          have qp : ev (.tmp 6) = .pointer (some ⟨g6, 0, none⟩) := e6
          obtain ⟨O9, hO9, hs9⟩ := HC.out.shape g6 _ _ _ HX6.out
          have qv : ev (.tmp 105) = .agg (sqC (concS y) vD') := e105
          have hs8 : O9.size = ((sqC (concS y) vD') : Array Value).size := by rw [hs9]; rfl
          have hst := run_storeVar_row (P := Try.prog) w' g6 28 28 O9 (sqC (concS y) vD') hO9 (by kernel_rfl) hs8 H1.out
          unfold Run
          rw [rely_store 28 _ _ rfl qp qv hst]
          refine HK.out _ _ (.inr ⟨groD_set (D := (fun k => k = g6 ∨ k = g7)) (Gro.refl _) (.inl rfl) hO9 hs8, fun j hj u hr => ?_⟩) (setRow_heap _ _ _ _ _ _ hO9)
          rcases j with _ | _ | _ | _ | _ | _ | _ | _ | _ | _ | _ | _ | _ | _ | _ | _ | _ | _ | _ | _ | _ | _ | _ | _ | _ | _ | j
          · exact hr
          · exact hr
          · exact hr
          · exact hr
          · exact hr
          · exact hr
          · exact hr
          · exact hr
          · exact hr
          · exact hr
          · exact hr
          · exact hr
          · exact hr
          · exact hr
          · exact hr
          · exact hr
          · exact hr
          · exact hr
          · exact hr
          · exact hr
          · exact hr
          · exact hr
          · exact hr
          · exact absurd rfl hj
          · exact sto_set (u := u) hr (Ne.symm NE12.out)
          · exact hr
          · exact trivial
        · refine ⟨rfl, ?_⟩
          refine (if_pos (by decide)).mpr ?_
          intro ev w' hC hc hf hb hr K hK
          have e7 : ev (.tmp 7) = _ := hb 7 (by kernel_rfl)
          have e106 := hr 1 _ rfl (by kernel_rfl)
          change ev (.tmp 106) = _ at e106
          have HK := Lib.hid hK
          have HC := Lib.hid hC
          clear hb hr hK hC hf
          have qp : ev (.tmp 7) = .pointer (some ⟨g7, 0, none⟩) := e7
          obtain ⟨O9, hO9, hs9⟩ := HC.out.shape g7 _ _ _ HX7.out
          have qv : ev (.tmp 106) = .agg (sxC y) := e106
          have hs8 : O9.size = ((sxC y) : Array Value).size := by rw [hs9]; rfl
          have hst := run_storeVar_row (P := Try.prog) w' g7 31 31 O9 (sxC y) hO9 (by kernel_rfl) hs8 (sx_ones _)
          unfold Run
          rw [rely_store 31 _ _ rfl qp qv hst]
          refine HK.out _ _ (.inr ⟨groD_set (D := (fun k => k = g6 ∨ k = g7)) (Gro.refl _) (.inr (rfl)) hO9 hs8, fun j hj u hr => ?_⟩) (setRow_heap _ _ _ _ _ _ hO9)
          rcases j with _ | _ | _ | _ | _ | _ | _ | _ | _ | _ | _ | _ | _ | _ | _ | _ | _ | _ | _ | _ | _ | _ | _ | _ | _ | _ | j
          · exact hr
          · exact hr
          · exact hr
          · exact hr
          · exact hr
          · exact hr
          · exact hr
          · exact hr
          · exact hr
          · exact hr
          · exact hr
          · exact hr
          · exact hr
          · exact hr
          · exact hr
          · exact hr
          · exact hr
          · exact hr
          · exact hr
          · exact hr
          · exact hr
          · exact hr
          · exact hr
          · exact sto_set (u := u) hr NE12.out
          · exact absurd rfl hj
          · exact hr
          · exact trivial
        · refine ⟨rfl, ?_⟩
          refine (if_pos (by decide)).mpr ?_
          intro ev w' hC hc hf hb hr K hK
          have e127 := hr 22 _ rfl (by kernel_rfl)
          change ev (.tmp 127) = _ at e127
          have HK := Lib.hid hK
          have HC := Lib.hid hC
          clear hb hr hK hC hf
          unfold Run
          simp [execOp, Upon, go_sem, *]
          exact HK.out _ _ (.inl (Below.refl _ _)) rfl
      · exact rl_mono ⟨is_mono _, is_mono _, is_mono _, is_mono _, is_mono _, is_mono _, is_mono _, is_mono _, is_mono _, is_mono _, is_mono _, is_mono _, is_mono _, is_mono _, is_mono _, is_mono _, is_mono _, is_mono _, is_mono _, is_mono _, is_mono _, is_mono _, is_mono _, sto_mono _ _ _, sto_mono _ _ _, is_mono _, trivial⟩
      intro us wr hG hH
      obtain ⟨-, -, -, -, -, -, -, -, -, -, -, -, -, -, -, -, -, -, -, -, -, -, -, h23, h24, h25, -⟩ := hH
      simp only [fillM]
      change us 8 = _ at h25
      rw [h25]
      clear h25
      change (Sto g6 (sqC (concS y) vD') 28 : Pred) undef wr at h23
      change (Sto g7 (sxC y) 31 : Pred) undef wr at h24
      generalize us 105 = v105
      generalize us 106 = v106
      generalize us 107 = v107
      generalize us 108 = v108
      generalize us 109 = v109
      generalize us 110 = v110
      generalize us 111 = v111
      generalize us 112 = v112
      generalize us 113 = v113
      generalize us 114 = v114
      generalize us 115 = v115
      generalize us 116 = v116
      generalize us 117 = v117
      generalize us 118 = v118
      generalize us 119 = v119
      generalize us 120 = v120
      generalize us 121 = v121
      generalize us 122 = v122
      generalize us 123 = v123
      generalize us 124 = v124
      generalize us 125 = v125
      generalize us 126 = v126
      generalize us 127 = v127
      have HV1 : Hid (wr.heap[g6]? = some (.cells (sqC (concS y) vD') 28 (0, 0))) := h23
      clear h23
      have HV2 : Hid (wr.heap[g7]? = some (.cells (sxC y) 31 (0, 0))) := h24
      clear h24
      clear HX6 HX7 HXA HXP HXB HPV NA6 NA7 NB6 NB7 NP6 NP7 NE12
      have FE := Lib.hid (F8.out.put2 (i := 4) (j := 3) rfl rfl (by decide) hG HV1.out HV2.out)
      clear hG F8
      have HBE := Lib.hid FE.out.below
      go_wp2
      refine ret_cct (g := g6) (g2 := g7) rfl rfl rfl (t := 28) (fr := (0, 0)) (FE.out.at (i := 4) rfl) Try.underlying28 rfl (by kernel_rfl) (t2 := 31) (fr2 := (0, 0)) (FE.out.at (i := 3) rfl) Try.underlying31 rfl (by kernel_rfl) rfl ?_
      exact ⟨_, rfl, FE.out.hand (i := 1) rfl, HBE.out⟩
  · as_aux_lemma =>
      have HY : Hid (y = x) := by show _ = _; rw [HST.out, if_neg (by decide), if_neg (by decide), if_pos rfl]
      obtain rfl : y = x := HY.out
      obtain ⟨a, l, hV, hP⟩ := again_form y sz
      have HCA := Lib.hid (again18_any y (sqC (concS y) vD) _ sz w0 (F1.out.val (i := 1) rfl) HOX.out HSZ.out)
      have HCB := Lib.hid (fun w' => refagain_any y sz w' HOX.out HLX.out HSZ.out)
      rw [hV] at HCB
      rw [hP] at HCA
      generalize againE y sz = en at HCA HCB
      generalize againO y sz = ok at HCA HCB
      have H1 := Lib.hid (sq_ones (F1.out.val (i := 1) rfl))
      clear hV hP HST HY
      go_wp2_with (refine wpList_load_row rfl 28 _ rfl g3 rfl 28 (sqC (concS y) vD) (0, 0) _ (F1.out.at (i := 4) rfl) Try.underlying28 rfl (by kernel_rfl) ?_)
      refine HCA.out.mono ?_
      rintro e w6 ⟨ps, rfl, hp, hb⟩
      obtain ⟨vP, rfl, hvP, h2⟩ := pc_of hp
      have H2 := Lib.hid h2
      have F2 := Lib.hid (F1.out.res hb (us := [vP]) (ds := [bytesD l]) (rvs_cons.2 ⟨hvP, rvs_nil⟩))
      clear h2 hp hb hvP F1 o0 o1 o2 o3 HCA
      go_upto_region 19 with (first | (refine wpList_store_new rfl 46 _ _ rfl w6 #[.int .u32 0, .slice none 0 0] (#[.int .u32 a, vP] : Array Value) rfl rfl (by kernel_rfl) rfl H2.out ?_) | go_in)
      have F3 := Lib.hid (F2.out.alloc (#[.int .u32 a, vP] : Array Value) 46)
      obtain ⟨gp, hgp⟩ : ∃ g, w6.heap.size = g := ⟨_, rfl⟩
      rw [hgp] at F3 ⊢
      change Code.wp _ _ _ _ (w6.alloc (.cells (#[.int .u32 a, vP] : Array Value) 46))
      generalize w6.alloc (.cells (#[.int .u32 a, vP] : Array Value) 46) = w7 at F3 ⊢
      clear F2 hgp H2
      obtain ⟨o0, o1, o2, o3⟩ := four_at (F3.out.at (i := 3) rfl)
      go_wp2_with (refine wpList_load_row rfl 31 _ rfl g4 rfl 31 (sxC y) (0, 0) _ (F3.out.at (i := 4) rfl) Try.underlying31 rfl (by kernel_rfl) ?_)
      refine (HCB.out _).mono ?_
      rintro e w8 ⟨rfl, hb⟩
      have F8 := Lib.hid (F3.out.call hb)
      clear hb F3 o0 o1 o2 o3 HCB
      go_upto_region 20 with (fail)
      have HX6 := Lib.hid (F8.out.at (i := 2) rfl)
      have HX7 := Lib.hid (F8.out.at (i := 1) rfl)
      have HXA := Lib.hid (F8.out.at (i := 5) rfl)
      have HXP := Lib.hid (F8.out.at (i := 0) rfl)
      have HXB := Lib.hid (F8.out.at (i := 4) rfl)
      have HPV := Lib.hid (F8.out.val (i := 0) rfl)
      have NE12 : Hid (g6 ≠ g7) := F8.out.ne (i := 2) (j := 1) rfl rfl (by decide)
      have NA6 : Hid (g3 ≠ g6) := F8.out.ne (i := 5) (j := 2) rfl rfl (by decide)
      have NA7 : Hid (g3 ≠ g7) := F8.out.ne (i := 5) (j := 1) rfl rfl (by decide)
      have NB6 : Hid (g4 ≠ g6) := F8.out.ne (i := 4) (j := 2) rfl rfl (by decide)
      have NB7 : Hid (g4 ≠ g7) := F8.out.ne (i := 4) (j := 1) rfl rfl (by decide)
      have NP6 : Hid (gp ≠ g6) := F8.out.ne (i := 0) (j := 2) rfl rfl (by decide)
      have NP7 : Hid (gp ≠ g7) := F8.out.ne (i := 0) (j := 1) rfl rfl (by decide)
      apply wp_region_relyQ (fun _ => true) (fun k => k = g6 ∨ k = g7) (RL [Is (.agg (sqC (concS y) vD)), Is (.agg (sxC y)), Is _, Is _, Is (.bool true), Is (.bool true), Is _, Is _, Is (.bool true), Is (.bool true), Is (.bool true), Is _, Is (vP), Is (.string ⟨l.toArray⟩), Is _, Is (.bool true), Is (.bool true), Is (.bool true), Is _, Is (.int .u32 a), Is _, Is (.bool true), Is (.bool true), Sto g6 (sqC (concS y) vD) 28, Sto g7 (sxC y) 31, Is (.bool true)]) [false, false, false, false, false, false, false, false, true, false, false, false, false, false, false, false, false, false, false, false, false, false, false, false, false, false, false, false, false, false, false, false, false, false, false, false, false, false, false, false, false, false, false, false, false, false, false, false, false, false, false, false, false, false, false, false, false, false, false, false, false, false, false, false, false, false, false, false, false, false, false, false, false, false, false, false, false, false, false, false, false, false, false, false, false, false, false, false, false, false, false, false, false, false, false, false, false, false, false, false, false, false, false, false, false, false, false, false, false, false, false, false, false, false, false, false, false, false, false, false, false, false, false, false, false, false, false, false, false, false, false, false, false, false, false, false, false, false, false, false, false, false, false, false, false, false, false, true, true, true, true, true, true, true, true, true, true, true, true, true, true, true, true, true, true, true, true, true, true, true, false, false, false, false, false, false, false, false, false, false, false, false, false, false, false, false, false, false, false, false, false, false, false, false, false, false, false, false, false, false, false, false, false, false, false, false, false]
      · kernel_rfl
      · kernel_rfl
      · kernel_rfl
      · refine ⟨?_, ?_, ?_, ?_, ?_, ?_, ?_, ?_, ?_, ?_, ?_, ?_, ?_, ?_, ?_, ?_, ?_, ?_, ?_, ?_, ?_, ?_, ?_, ?_, ?_, ?_, trivial⟩
        · refine ⟨rfl, ?_⟩
          refine (if_pos (by decide)).mpr ?_
          intro ev w' hC hc hf hb hr K hK
          have e3 : ev (.tmp 3) = _ := hb 3 (by kernel_rfl)
          have HK := Lib.hid hK
          have HC := Lib.hid hC
          clear hb hr hK hC hf
          have q1 : ev (.tmp 3) = .pointer (some ⟨g3, 0, none⟩) := e3
          have hld := run_loadVar_row (P := Try.prog) w' g3 28 28 (sqC (concS y) vD) (0, 0) _ (gro_old HC.out HXA.out (fun e => by rcases e with e | e; exact NA6.out e; exact NA7.out e)) Try.underlying28 rfl (by kernel_rfl)
          unfold Run
          rw [rely_load 28 _ rfl q1 hld]
          exact HK.out _ _ (.inl (Below.refl _ _)) rfl
        · refine ⟨rfl, ?_⟩
          refine (if_pos (by decide)).mpr ?_
          intro ev w' hC hc hf hb hr K hK
          have e4 : ev (.tmp 4) = _ := hb 4 (by kernel_rfl)
          have HK := Lib.hid hK
          have HC := Lib.hid hC
          clear hb hr hK hC hf
          have q1 : ev (.tmp 4) = .pointer (some ⟨g4, 0, none⟩) := e4
          have hld := run_loadVar_row (P := Try.prog) w' g4 31 31 (sxC y) (0, 0) _ (gro_old HC.out HXB.out (fun e => by rcases e with e | e; exact NB6.out e; exact NB7.out e)) Try.underlying31 rfl (by kernel_rfl)
          unfold Run
          rw [rely_load 31 _ rfl q1 hld]
          exact HK.out _ _ (.inl (Below.refl _ _)) rfl
        · refine ⟨rfl, ?_⟩
          refine (if_pos (by decide)).mpr ?_
          intro ev w' hC hc hf hb hr K hK
          have e26 : ev (.tmp 26) = _ := hb 26 (by kernel_rfl)
          have HK := Lib.hid hK
          have HC := Lib.hid hC
          clear hb hr hK hC hf
          unfold Run
          simp [execOp, Upon, go_sem, *]
          exact HK.out _ _ (.inl (Below.refl _ _)) rfl
        · refine ⟨rfl, ?_⟩
          refine (if_pos (by decide)).mpr ?_
          intro ev w' hC hc hf hb hr K hK
          have e30 : ev (.tmp 30) = _ := hb 30 (by kernel_rfl)
          have HK := Lib.hid hK
          have HC := Lib.hid hC
          clear hb hr hK hC hf
          unfold Run
          simp [execOp, Upon, go_sem, *]
          exact HK.out _ _ (.inl (Below.refl _ _)) rfl
        · refine ⟨rfl, ?_⟩
          refine (if_pos (by decide)).mpr ?_
          intro ev w' hC hc hf hb hr K hK
          have e149 := hr 2 _ rfl (by kernel_rfl)
          have e150 := hr 3 _ rfl (by kernel_rfl)
          change ev (.tmp 149) = _ at e149
          change ev (.tmp 150) = _ at e150
          have HK := Lib.hid hK
          have HC := Lib.hid hC
          clear hb hr hK hC hf
          unfold Run
          simp [execOp, Upon, go_sem, *]
          exact HK.out _ _ (.inl (Below.refl _ _)) rfl
        · refine ⟨rfl, ?_⟩
          refine (if_pos (by decide)).mpr ?_
          intro ev w' hC hc hf hb hr K hK
          have e151 := hr 4 _ rfl (by kernel_rfl)
          change ev (.tmp 151) = _ at e151
          have HK := Lib.hid hK
          have HC := Lib.hid hC
          clear hb hr hK hC hf
          unfold Run
          simp [execOp, Upon, go_sem, *]
          exact HK.out _ _ (.inl (Below.refl _ _)) rfl
        · refine ⟨⟨_, _, rfl, rfl, fun v w h => h⟩, ?_⟩
          refine (if_pos (by decide)).mpr ?_
          intro ev w' hC hc hf hb hr K hK
          have e25 : ev (.tmp 25) = _ := hb 25 (by kernel_rfl)
          have HK := Lib.hid hK
          have HC := Lib.hid hC
          clear hb hr hK hC hf
          unfold Run
          simp [execOp, Upon, go_sem, *]
          exact HK.out _ _ (.inl (Below.refl _ _)) rfl
        · refine ⟨⟨_, _, rfl, rfl, fun v w h => h⟩, ?_⟩
          refine (if_pos (by decide)).mpr ?_
          intro ev w' hC hc hf hb hr K hK
          have e29 : ev (.tmp 29) = _ := hb 29 (by kernel_rfl)
          have HK := Lib.hid hK
          have HC := Lib.hid hC
          clear hb hr hK hC hf
          unfold Run
          simp [execOp, Upon, go_sem, *]
          exact HK.out _ _ (.inl (Below.refl _ _)) rfl
        · refine ⟨⟨_, _, rfl, rfl, fun v w h => h⟩, ?_⟩
          refine (if_pos (by decide)).mpr ?_
          intro ev w' hC hc hf hb hr K hK
          have e153 := hr 6 _ rfl (by kernel_rfl)
          have e154 := hr 7 _ rfl (by kernel_rfl)
          change ev (.tmp 153) = _ at e153
          change ev (.tmp 154) = _ at e154
          have HK := Lib.hid hK
          have HC := Lib.hid hC
          clear hb hr hK hC hf
          unfold Run
          simp [execOp, Upon, go_sem, *]
          exact HK.out _ _ (.inl (Below.refl _ _)) rfl
        · refine ⟨rfl, ?_⟩
          refine (if_pos (by decide)).mpr ?_
          intro ev w' hC hc hf hb hr K hK
          have e152 := hr 5 _ rfl (by kernel_rfl)
          have e155 := hr 8 _ rfl (by kernel_rfl)
          change ev (.tmp 152) = _ at e152
          change ev (.tmp 155) = _ at e155
          have HK := Lib.hid hK
          have HC := Lib.hid hC
          clear hb hr hK hC hf
          unfold Run
          simp [execOp, Upon, go_sem, *]
          exact HK.out _ _ (.inl (Below.refl _ _)) rfl
        · refine ⟨rfl, ?_⟩
          refine (if_pos (by decide)).mpr ?_
          intro ev w' hC hc hf hb hr K hK
          have e156 := hr 9 _ rfl (by kernel_rfl)
          change ev (.tmp 156) = _ at e156
          have HK := Lib.hid hK
          have HC := Lib.hid hC
          clear hb hr hK hC hf
          unfold Run
          simp [execOp, Upon, go_sem, *]
          exact HK.out _ _ (.inl (Below.refl _ _)) rfl
        · refine ⟨⟨_, _, rfl, rfl, fun v w h => h⟩, ?_⟩
          refine (if_pos (by decide)).mpr ?_
          intro ev w' hC hc hf hb hr K hK
          have e24 : ev (.tmp 24) = _ := hb 24 (by kernel_rfl)
          have HK := Lib.hid hK
          have HC := Lib.hid hC
          clear hb hr hK hC hf
          unfold Run
          simp [execOp, Upon, go_sem, *]
          exact HK.out _ _ (.inl (Below.refl _ _)) rfl
        · refine ⟨⟨_, _, rfl, rfl, fun v w h => h⟩, ?_⟩
          refine (if_pos (by decide)).mpr ?_
          intro ev w' hC hc hf hb hr K hK
          have e158 := hr 11 _ rfl (by kernel_rfl)
          change ev (.tmp 158) = _ at e158
          have HK := Lib.hid hK
          have HC := Lib.hid hC
          clear hb hr hK hC hf
          have q1 : ev (.tmp 158) = .pointer (some ⟨gp, 1, none⟩) := e158
          have hld := run_loadVar_cell (P := Try.prog) w' ⟨gp, 1, none⟩ 26 (vP) _ ((cell_of_row _ _ _ _ _ _ (gro_old HC.out HXP.out (fun e => by rcases e with e | e; exact NP6.out e; exact NP7.out e))).trans rfl) Try.underlying26 rfl
          unfold Run
          rw [rely_load 26 _ rfl q1 hld]
          exact HK.out _ _ (.inl (Below.refl _ _)) rfl
        · refine ⟨⟨_, _, rfl, rfl, fun v w h => h⟩, ?_⟩
          refine (if_pos (by decide)).mpr ?_
          intro ev w' hC hc hf hb hr K hK
          have e159 := hr 12 _ rfl (by kernel_rfl)
          change ev (.tmp 159) = _ at e159
          have HK := Lib.hid hK
          have HC := Lib.hid hC
          clear hb hr hK hC hf
          have hcvx := byt_text (rvs_cons.1 (rvs_gro HPV.out HC.out (fun b hb e => hb.1 (by rcases e with e | e <;> simp [e])))).1 w' (Below.refl _ _)
          unfold Run
          simp [execOp, Upon, go_sem, *]
          exact HK.out _ _ (.inl (Below.refl _ _)) rfl
        · refine ⟨⟨_, _, rfl, rfl, fun v w h => h⟩, ?_⟩
          refine (if_pos (by decide)).mpr ?_
          intro ev w' hC hc hf hb hr K hK
          have e28 : ev (.tmp 28) = _ := hb 28 (by kernel_rfl)
          have HK := Lib.hid hK
          have HC := Lib.hid hC
          clear hb hr hK hC hf
          unfold Run
          simp [execOp, Upon, go_sem, *]
          exact HK.out _ _ (.inl (Below.refl _ _)) rfl
        · refine ⟨⟨_, _, rfl, rfl, fun v w h => h⟩, ?_⟩
          refine (if_pos (by decide)).mpr ?_
          intro ev w' hC hc hf hb hr K hK
          have e160 := hr 13 _ rfl (by kernel_rfl)
          have e161 := hr 14 _ rfl (by kernel_rfl)
          change ev (.tmp 160) = _ at e160
          change ev (.tmp 161) = _ at e161
          have HK := Lib.hid hK
          have HC := Lib.hid hC
          clear hb hr hK hC hf
          unfold Run
          simp [execOp, Upon, go_sem, *]
          exact HK.out _ _ (.inl (Below.refl _ _)) (congrArg Value.bool (beq_self_eq_true _))
        · refine ⟨rfl, ?_⟩
          refine (if_pos (by decide)).mpr ?_
          intro ev w' hC hc hf hb hr K hK
          have e157 := hr 10 _ rfl (by kernel_rfl)
          have e162 := hr 15 _ rfl (by kernel_rfl)
          change ev (.tmp 157) = _ at e157
          change ev (.tmp 162) = _ at e162
          have HK := Lib.hid hK
          have HC := Lib.hid hC
          clear hb hr hK hC hf
          unfold Run
          simp [execOp, Upon, go_sem, *]
          exact HK.out _ _ (.inl (Below.refl _ _)) rfl
        · refine ⟨rfl, ?_⟩
          refine (if_pos (by decide)).mpr ?_
          intro ev w' hC hc hf hb hr K hK
          have e163 := hr 16 _ rfl (by kernel_rfl)
          change ev (.tmp 163) = _ at e163
          have HK := Lib.hid hK
          have HC := Lib.hid hC
          clear hb hr hK hC hf
          unfold Run
          simp [execOp, Upon, go_sem, *]
          exact HK.out _ _ (.inl (Below.refl _ _)) rfl
        · refine ⟨⟨_, _, rfl, rfl, fun v w h => h⟩, ?_⟩
          refine (if_pos (by decide)).mpr ?_
          intro ev w' hC hc hf hb hr K hK
          have e24 : ev (.tmp 24) = _ := hb 24 (by kernel_rfl)
          have HK := Lib.hid hK
          have HC := Lib.hid hC
          clear hb hr hK hC hf
          unfold Run
          simp [execOp, Upon, go_sem, *]
          exact HK.out _ _ (.inl (Below.refl _ _)) rfl
        · refine ⟨⟨_, _, rfl, rfl, fun v w h => h⟩, ?_⟩
          refine (if_pos (by decide)).mpr ?_
          intro ev w' hC hc hf hb hr K hK
          have e165 := hr 18 _ rfl (by kernel_rfl)
          change ev (.tmp 165) = _ at e165
          have HK := Lib.hid hK
          have HC := Lib.hid hC
          clear hb hr hK hC hf
          have q1 : ev (.tmp 165) = .pointer (some ⟨gp, 0, none⟩) := e165
          have hld := run_loadVar_cell (P := Try.prog) w' ⟨gp, 0, none⟩ 22 (.int .u32 a) _ ((cell_of_row _ _ _ _ _ _ (gro_old HC.out HXP.out (fun e => by rcases e with e | e; exact NP6.out e; exact NP7.out e))).trans rfl) Try.underlying22 rfl
          unfold Run
          rw [rely_load 22 _ rfl q1 hld]
          exact HK.out _ _ (.inl (Below.refl _ _)) rfl
        · refine ⟨⟨_, _, rfl, rfl, fun v w h => h⟩, ?_⟩
          refine (if_pos (by decide)).mpr ?_
          intro ev w' hC hc hf hb hr K hK
          have e27 : ev (.tmp 27) = _ := hb 27 (by kernel_rfl)
          have HK := Lib.hid hK
          have HC := Lib.hid hC
          clear hb hr hK hC hf
          unfold Run
          simp [execOp, Upon, go_sem, *]
          exact HK.out _ _ (.inl (Below.refl _ _)) rfl
        · refine ⟨⟨_, _, rfl, rfl, fun v w h => h⟩, ?_⟩
          refine (if_pos (by decide)).mpr ?_
          intro ev w' hC hc hf hb hr K hK
          have e166 := hr 19 _ rfl (by kernel_rfl)
          have e167 := hr 20 _ rfl (by kernel_rfl)
          change ev (.tmp 166) = _ at e166
          change ev (.tmp 167) = _ at e167
          have HK := Lib.hid hK
          have HC := Lib.hid hC
          clear hb hr hK hC hf
          unfold Run
          simp [execOp, Upon, go_sem, *]
          exact HK.out _ _ (.inl (Below.refl _ _)) rfl
        · refine ⟨rfl, ?_⟩
          refine (if_pos (by decide)).mpr ?_
          intro ev w' hC hc hf hb hr K hK
          have e164 := hr 17 _ rfl (by kernel_rfl)
          have e168 := hr 21 _ rfl (by kernel_rfl)
          change ev (.tmp 164) = _ at e164
          change ev (.tmp 168) = _ at e168
          have HK := Lib.hid hK
          have HC := Lib.hid hC
          clear hb hr hK hC hf
          unfold Run
          simp [execOp, Upon, go_sem, *]
          exact HK.out _ _ (.inl (Below.refl _ _)) rfl
        · refine ⟨rfl, ?_⟩
          refine (if_pos (by decide)).mpr ?_
          intro ev w' hC hc hf hb hr K hK
          have e6 : ev (.tmp 6) = _ := hb 6 (by kernel_rfl)
          have e147 := hr 0 _ rfl (by kernel_rfl)
          change ev (.tmp 147) = _ at e147
          have HK := Lib.hid hK
          have HC := Lib.hid hC
          clear hb hr hK hC hf
          have qp : ev (.tmp 6) = .pointer (some ⟨g6, 0, none⟩) := e6
          obtain ⟨O9, hO9, hs9⟩ := HC.out.shape g6 _ _ _ HX6.out
          have qv : ev (.tmp 147) = .agg (sqC (concS y) vD) := e147
          have hs8 : O9.size = ((sqC (concS y) vD) : Array Value).size := by rw [hs9]; rfl
          have hst := run_storeVar_row (P := Try.prog) w' g6 28 28 O9 (sqC (concS y) vD) hO9 (by kernel_rfl) hs8 H1.out
          unfold Run
          rw [rely_store 28 _ _ rfl qp qv hst]
          refine HK.out _ _ (.inr ⟨groD_set (D := (fun k => k = g6 ∨ k = g7)) (Gro.refl _) (.inl rfl) hO9 hs8, fun j hj u hr => ?_⟩) (setRow_heap _ _ _ _ _ _ hO9)
          rcases j with _ | _ | _ | _ | _ | _ | _ | _ | _ | _ | _ | _ | _ | _ | _ | _ | _ | _ | _ | _ | _ | _ | _ | _ | _ | _ | j
          · exact hr
          · exact hr
          · exact hr
          · exact hr
          · exact hr
          · exact hr
          · exact hr
          · exact hr
          · exact hr
          · exact hr
          · exact hr
          · exact hr
          · exact hr
          · exact hr
          · exact hr
          · exact hr
          · exact hr
          · exact hr
          · exact hr
          · exact hr
          · exact hr
          · exact hr
          · exact hr
          · exact absurd rfl hj
          · exact sto_set (u := u) hr (Ne.symm NE12.out)
          · exact hr
          · exact trivial
        · refine ⟨rfl, ?_⟩
          refine (if_pos (by decide)).mpr ?_
          intro ev w' hC hc hf hb hr K hK
          have e7 : ev (.tmp 7) = _ := hb 7 (by kernel_rfl)
          have e148 := hr 1 _ rfl (by kernel_rfl)
          change ev (.tmp 148) = _ at e148
          have HK := Lib.hid hK
          have HC := Lib.hid hC
          clear hb hr hK hC hf
          have qp : ev (.tmp 7) = .pointer (some ⟨g7, 0, none⟩) := e7
          obtain ⟨O9, hO9, hs9⟩ := HC.out.shape g7 _ _ _ HX7.out
          have qv : ev (.tmp 148) = .agg (sxC y) := e148
          have hs8 : O9.size = ((sxC y) : Array Value).size := by rw [hs9]; rfl
          have hst := run_storeVar_row (P := Try.prog) w' g7 31 31 O9 (sxC y) hO9 (by kernel_rfl) hs8 (sx_ones _)
          unfold Run
          rw [rely_store 31 _ _ rfl qp qv hst]
          refine HK.out _ _ (.inr ⟨groD_set (D := (fun k => k = g6 ∨ k = g7)) (Gro.refl _) (.inr (rfl)) hO9 hs8, fun j hj u hr => ?_⟩) (setRow_heap _ _ _ _ _ _ hO9)
          rcases j with _ | _ | _ | _ | _ | _ | _ | _ | _ | _ | _ | _ | _ | _ | _ | _ | _ | _ | _ | _ | _ | _ | _ | _ | _ | _ | j
          · exact hr
          · exact hr
          · exact hr
          · exact hr
          · exact hr
          · exact hr
          · exact hr
          · exact hr
          · exact hr
          · exact hr
          · exact hr
          · exact hr
          · exact hr
          · exact hr
          · exact hr
          · exact hr
          · exact hr
          · exact hr
          · exact hr
          · exact hr
          · exact hr
          · exact hr
          · exact hr
          · exact sto_set (u := u) hr NE12.out
          · exact absurd rfl hj
          · exact hr
          · exact trivial
        · refine ⟨rfl, ?_⟩
          refine (if_pos (by decide)).mpr ?_
          intro ev w' hC hc hf hb hr K hK
          have e169 := hr 22 _ rfl (by kernel_rfl)
          change ev (.tmp 169) = _ at e169
          have HK := Lib.hid hK
          have HC := Lib.hid hC
          clear hb hr hK hC hf
          unfold Run
          simp [execOp, Upon, go_sem, *]
          exact HK.out _ _ (.inl (Below.refl _ _)) rfl
      · exact rl_mono ⟨is_mono _, is_mono _, is_mono _, is_mono _, is_mono _, is_mono _, is_mono _, is_mono _, is_mono _, is_mono _, is_mono _, is_mono _, is_mono _, is_mono _, is_mono _, is_mono _, is_mono _, is_mono _, is_mono _, is_mono _, is_mono _, is_mono _, is_mono _, sto_mono _ _ _, sto_mono _ _ _, is_mono _, trivial⟩
      intro us wr hG hH
      obtain ⟨-, -, -, -, -, -, -, -, -, -, -, -, -, -, -, -, -, -, -, -, -, -, -, h23, h24, h25, -⟩ := hH
      simp only [fillM]
      change us 8 = _ at h25
      rw [h25]
      clear h25
      change (Sto g6 (sqC (concS y) vD) 28 : Pred) undef wr at h23
      change (Sto g7 (sxC y) 31 : Pred) undef wr at h24
      generalize us 147 = v147
      generalize us 148 = v148
      generalize us 149 = v149
      generalize us 150 = v150
      generalize us 151 = v151
      generalize us 152 = v152
      generalize us 153 = v153
      generalize us 154 = v154
      generalize us 155 = v155
      generalize us 156 = v156
      generalize us 157 = v157
      generalize us 158 = v158
      generalize us 159 = v159
      generalize us 160 = v160
      generalize us 161 = v161
      generalize us 162 = v162
      generalize us 163 = v163
      generalize us 164 = v164
      generalize us 165 = v165
      generalize us 166 = v166
      generalize us 167 = v167
      generalize us 168 = v168
      generalize us 169 = v169
      have HV1 : Hid (wr.heap[g6]? = some (.cells (sqC (concS y) vD) 28 (0, 0))) := h23
      clear h23
      have HV2 : Hid (wr.heap[g7]? = some (.cells (sxC y) 31 (0, 0))) := h24
      clear h24
      clear HX6 HX7 HXA HXP HXB HPV NA6 NA7 NB6 NB7 NP6 NP7 NE12
      have FE := Lib.hid (F8.out.put2 (i := 2) (j := 1) rfl rfl (by decide) hG HV1.out HV2.out)
      clear hG F8
      have HBE := Lib.hid FE.out.below
      go_wp2
      refine ret_cct (g := g6) (g2 := g7) rfl rfl rfl (t := 28) (fr := (0, 0)) (FE.out.at (i := 2) rfl) Try.underlying28 rfl (by kernel_rfl) (t2 := 31) (fr2 := (0, 0)) (FE.out.at (i := 1) rfl) Try.underlying31 rfl (by kernel_rfl) rfl ?_
      exact ⟨_, rfl, FE.out.hand (i := 2) rfl, HBE.out⟩
  · as_aux_lemma =>
      have HY : Hid (y = ackS x (addS (addS x.first x.acked) nn)) := by show _ = _; rw [HST.out, if_neg (by decide), if_neg (by decide), if_neg (by decide), if_pos (by decide)]
      have HWA : Hid (((concS x).una + nn % 4294967296) % 4294967296 = addS (addS x.first x.acked) nn) := wrap_add (concS x).una nn
      have HAU : Hid (U32 (addS (addS x.first x.acked) nn)) := ⟨addS_ge _ _, addS_le _ _⟩
      obtain ⟨AT, hAT⟩ : ∃ AT, addS (addS x.first x.acked) nn = AT := ⟨_, rfl⟩
      rw [hAT] at HWA HAU HY
      have HCA := Lib.hid (fun w' S (hr : Rvs w' S (sqC (concS x) vD).toList (sqD (concS x))) => ack18_any x (sqC (concS x) vD) S AT w' hr HOX.out HAU.out)
      have HCB := Lib.hid (fun w' => refack_any x AT w' HOX.out HLX.out HAU.out)
      rw [← HY.out] at HCA HCB
      generalize ackN x AT = an at HCA HCB
      generalize ackE x AT = ae at HCA HCB
      clear HST HY hAT
      have q0 := sq_cells (F1.out.at (i := 4) rfl)
      go_upto_region 24 with (fail)
      rw [HWA.out]
      clear q0 HWA o0 o1 o2 o3
      go_wp2_with (refine wpList_load_row rfl 28 _ rfl g3 rfl 28 (sqC (concS x) vD) (0, 0) _ (F1.out.at (i := 4) rfl) Try.underlying28 rfl (by kernel_rfl) ?_)
      refine (HCA.out _ _ (F1.out.val (i := 1) rfl)).mono ?_
      rintro e w6 ⟨cs', rfl, hr, hb⟩
      obtain ⟨vD', rfl, -, h1⟩ := sq_of hr
      have H1 := Lib.hid h1
      have F2 := Lib.hid (F1.out.res hb hr)
      clear h1 hr hb F1 HCA
      go_upto_region 25 with (first | (refine wpList_store_new rfl 28 _ _ rfl w6 #[.int .u32 0, .slice none 0 0, .int .i64 0, .bool false, .bool false, .bool false] (sqC (concS y) vD') rfl rfl (by kernel_rfl) rfl H1.out ?_) | go_in)
      have F3 := Lib.hid (F2.out.alloc (sqC (concS y) vD') 28)
      obtain ⟨ga, hga⟩ : ∃ g, w6.heap.size = g := ⟨_, rfl⟩
      rw [hga] at F3 ⊢
      change Code.wp _ _ _ _ (w6.alloc (.cells (sqC (concS y) vD') 28))
      generalize w6.alloc (.cells (sqC (concS y) vD') 28) = w7 at F3 ⊢
      clear F2 hga
      go_wp2_with (refine wpList_load_row rfl 31 _ rfl g4 rfl 31 (sxC x) (0, 0) _ (F3.out.at (i := 4) rfl) Try.underlying31 rfl (by kernel_rfl) ?_)
      refine (HCB.out _).mono ?_
      rintro e w8 ⟨rfl, hb⟩
      have F4 := Lib.hid (F3.out.call hb)
      clear hb F3 HCB
      go_upto_region 26 with (first | (refine wpList_store_new rfl 31 _ _ rfl w8 Zsx (sxC y) rfl rfl (by kernel_rfl) rfl (sx_ones _) ?_) | go_in)
      have F8 := Lib.hid (F4.out.alloc (sxC y) 31)
      obtain ⟨gb, hgb⟩ : ∃ g, w8.heap.size = g := ⟨_, rfl⟩
      rw [hgb] at F8 ⊢
      change Code.wp _ _ _ _ (w8.alloc (.cells (sxC y) 31))
      generalize w8.alloc (.cells (sxC y) 31) = w9 at F8 ⊢
      clear F4 hgb
      have HX6 := Lib.hid (F8.out.at (i := 3) rfl)
      have HX7 := Lib.hid (F8.out.at (i := 2) rfl)
      have HXA := Lib.hid (F8.out.at (i := 1) rfl)
      have HXB := Lib.hid (F8.out.at (i := 0) rfl)
      have NE12 : Hid (g6 ≠ g7) := F8.out.ne (i := 3) (j := 2) rfl rfl (by decide)
      have NA6 : Hid (ga ≠ g6) := F8.out.ne (i := 1) (j := 3) rfl rfl (by decide)
      have NA7 : Hid (ga ≠ g7) := F8.out.ne (i := 1) (j := 2) rfl rfl (by decide)
      have NB6 : Hid (gb ≠ g6) := F8.out.ne (i := 0) (j := 3) rfl rfl (by decide)
      have NB7 : Hid (gb ≠ g7) := F8.out.ne (i := 0) (j := 2) rfl rfl (by decide)
      apply wp_region_relyQ (fun _ => true) (fun k => k = g6 ∨ k = g7) (RL [Is (.agg (sqC (concS y) vD')), Is (.agg (sxC y)), Is _, Is _, Is (.bool true), Is (.bool true), Is _, Is _, Is (.bool true), Is (.bool true), Sto g6 (sqC (concS y) vD') 28, Sto g7 (sxC y) 31, Is (.bool true)]) [false, false, false, false, false, false, false, false, true, false, false, false, false, false, false, false, false, false, false, false, false, false, false, false, false, false, false, false, false, false, false, false, false, false, false, false, false, false, false, false, false, false, false, false, false, false, false, false, false, false, false, false, false, false, false, false, false, false, false, false, false, false, false, false, false, false, false, false, false, false, false, false, false, false, false, false, false, false, false, false, false, false, false, false, false, false, false, false, false, false, false, false, false, false, false, false, false, false, false, false, false, false, false, false, false, false, false, false, false, false, false, false, false, false, false, false, false, false, false, false, false, false, false, false, false, false, false, false, false, false, false, false, false, false, false, false, false, false, false, false, false, false, false, false, false, false, false, false, false, false, false, false, false, false, false, false, false, false, false, false, false, false, false, false, false, false, false, false, false, false, false, false, false, false, false, false, false, false, false, false, false, false, false, false, false, false, false, false, false, false, false, false, false, true, true, true, true, true, true, true, true, true, true, false, false, false, false]
      · kernel_rfl
      · kernel_rfl
      · kernel_rfl
      · refine ⟨?_, ?_, ?_, ?_, ?_, ?_, ?_, ?_, ?_, ?_, ?_, ?_, ?_, trivial⟩
        · refine ⟨rfl, ?_⟩
          refine (if_pos (by decide)).mpr ?_
          intro ev w' hC hc hf hb hr K hK
          have e32 : ev (.tmp 32) = _ := hb 32 (by kernel_rfl)
          have HK := Lib.hid hK
          have HC := Lib.hid hC
          clear hb hr hK hC hf
          have q1 : ev (.tmp 32) = .pointer (some ⟨ga, 0, none⟩) := e32
          have hld := run_loadVar_row (P := Try.prog) w' ga 28 28 (sqC (concS y) vD') (0, 0) _ (gro_old HC.out HXA.out (fun e => by rcases e with e | e; exact NA6.out e; exact NA7.out e)) Try.underlying28 rfl (by kernel_rfl)
          unfold Run
          rw [rely_load 28 _ rfl q1 hld]
          exact HK.out _ _ (.inl (Below.refl _ _)) rfl
        · refine ⟨rfl, ?_⟩
          refine (if_pos (by decide)).mpr ?_
          intro ev w' hC hc hf hb hr K hK
          have e35 : ev (.tmp 35) = _ := hb 35 (by kernel_rfl)
          have HK := Lib.hid hK
          have HC := Lib.hid hC
          clear hb hr hK hC hf
          have q1 : ev (.tmp 35) = .pointer (some ⟨gb, 0, none⟩) := e35
          have hld := run_loadVar_row (P := Try.prog) w' gb 31 31 (sxC y) (0, 0) _ (gro_old HC.out HXB.out (fun e => by rcases e with e | e; exact NB6.out e; exact NB7.out e)) Try.underlying31 rfl (by kernel_rfl)
          unfold Run
          rw [rely_load 31 _ rfl q1 hld]
          exact HK.out _ _ (.inl (Below.refl _ _)) rfl
        · refine ⟨rfl, ?_⟩
          refine (if_pos (by decide)).mpr ?_
          intro ev w' hC hc hf hb hr K hK
          have e33 : ev (.tmp 33) = _ := hb 33 (by kernel_rfl)
          have HK := Lib.hid hK
          have HC := Lib.hid hC
          clear hb hr hK hC hf
          unfold Run
          simp [execOp, Upon, go_sem, *]
          exact HK.out _ _ (.inl (Below.refl _ _)) rfl
        · refine ⟨rfl, ?_⟩
          refine (if_pos (by decide)).mpr ?_
          intro ev w' hC hc hf hb hr K hK
          have e36 : ev (.tmp 36) = _ := hb 36 (by kernel_rfl)
          have HK := Lib.hid hK
          have HC := Lib.hid hC
          clear hb hr hK hC hf
          unfold Run
          simp [execOp, Upon, go_sem, *]
          exact HK.out _ _ (.inl (Below.refl _ _)) rfl
        · refine ⟨rfl, ?_⟩
          refine (if_pos (by decide)).mpr ?_
          intro ev w' hC hc hf hb hr K hK
          have e195 := hr 2 _ rfl (by kernel_rfl)
          have e196 := hr 3 _ rfl (by kernel_rfl)
          change ev (.tmp 195) = _ at e195
          change ev (.tmp 196) = _ at e196
          have HK := Lib.hid hK
          have HC := Lib.hid hC
          clear hb hr hK hC hf
          unfold Run
          simp [execOp, Upon, go_sem, *]
          exact HK.out _ _ (.inl (Below.refl _ _)) rfl
        · refine ⟨rfl, ?_⟩
          refine (if_pos (by decide)).mpr ?_
          intro ev w' hC hc hf hb hr K hK
          have e197 := hr 4 _ rfl (by kernel_rfl)
          change ev (.tmp 197) = _ at e197
          have HK := Lib.hid hK
          have HC := Lib.hid hC
          clear hb hr hK hC hf
          unfold Run
          simp [execOp, Upon, go_sem, *]
          exact HK.out _ _ (.inl (Below.refl _ _)) rfl
        · refine ⟨⟨_, _, rfl, rfl, fun v w h => h⟩, ?_⟩
          refine (if_pos (by decide)).mpr ?_
          intro ev w' hC hc hf hb hr K hK
          have e34 : ev (.tmp 34) = _ := hb 34 (by kernel_rfl)
          have HK := Lib.hid hK
          have HC := Lib.hid hC
          clear hb hr hK hC hf
          unfold Run
          simp [execOp, Upon, go_sem, *]
          exact HK.out _ _ (.inl (Below.refl _ _)) rfl
        · refine ⟨⟨_, _, rfl, rfl, fun v w h => h⟩, ?_⟩
          refine (if_pos (by decide)).mpr ?_
          intro ev w' hC hc hf hb hr K hK
          have e37 : ev (.tmp 37) = _ := hb 37 (by kernel_rfl)
          have HK := Lib.hid hK
          have HC := Lib.hid hC
          clear hb hr hK hC hf
          unfold Run
          simp [execOp, Upon, go_sem, *]
          exact HK.out _ _ (.inl (Below.refl _ _)) rfl
        · refine ⟨⟨_, _, rfl, rfl, fun v w h => h⟩, ?_⟩
          refine (if_pos (by decide)).mpr ?_
          intro ev w' hC hc hf hb hr K hK
          have e199 := hr 6 _ rfl (by kernel_rfl)
          have e200 := hr 7 _ rfl (by kernel_rfl)
          change ev (.tmp 199) = _ at e199
          change ev (.tmp 200) = _ at e200
          have HK := Lib.hid hK
          have HC := Lib.hid hC
          clear hb hr hK hC hf
          unfold Run
          simp [execOp, Upon, go_sem, *]
          exact HK.out _ _ (.inl (Below.refl _ _)) rfl
        · refine ⟨rfl, ?_⟩
          refine (if_pos (by decide)).mpr ?_
          intro ev w' hC hc hf hb hr K hK
          have e198 := hr 5 _ rfl (by kernel_rfl)
          have e201 := hr 8 _ rfl (by kernel_rfl)
          change ev (.tmp 198) = _ at e198
          change ev (.tmp 201) = _ at e201
          have HK := Lib.hid hK
          have HC := Lib.hid hC
          clear hb hr hK hC hf
          unfold Run
          simp [execOp, Upon, go_sem, *]
          exact HK.out _ _ (.inl (Below.refl _ _)) rfl
        · refine ⟨rfl, ?_⟩
          refine (if_pos (by decide)).mpr ?_
          intro ev w' hC hc hf hb hr K hK
          have e6 : ev (.tmp 6) = _ := hb 6 (by kernel_rfl)
          have e193 := hr 0 _ rfl (by kernel_rfl)
          change ev (.tmp 193) = _ at e193
          have HK := Lib.hid hK
          have HC := Lib.hid hC
          clear hb hr hK hC hf
          have qp : ev (.tmp 6) = .pointer (some ⟨g6, 0, none⟩) := e6
          obtain ⟨O9, hO9, hs9⟩ := HC.out.shape g6 _ _ _ HX6.out
          have qv : ev (.tmp 193) = .agg (sqC (concS y) vD') := e193
          have hs8 : O9.size = ((sqC (concS y) vD') : Array Value).size := by rw [hs9]; rfl
          have hst := run_storeVar_row (P := Try.prog) w' g6 28 28 O9 (sqC (concS y) vD') hO9 (by kernel_rfl) hs8 H1.out
          unfold Run
          rw [rely_store 28 _ _ rfl qp qv hst]
          refine HK.out _ _ (.inr ⟨groD_set (D := (fun k => k = g6 ∨ k = g7)) (Gro.refl _) (.inl rfl) hO9 hs8, fun j hj u hr => ?_⟩) (setRow_heap _ _ _ _ _ _ hO9)
          rcases j with _ | _ | _ | _ | _ | _ | _ | _ | _ | _ | _ | _ | _ | j
          · exact hr
          · exact hr
          · exact hr
          · exact hr
          · exact hr
          · exact hr
          · exact hr
          · exact hr
          · exact hr
          · exact hr
          · exact absurd rfl hj
          · exact sto_set (u := u) hr (Ne.symm NE12.out)
          · exact hr
          · exact trivial
        · refine ⟨rfl, ?_⟩
          refine (if_pos (by decide)).mpr ?_
          intro ev w' hC hc hf hb hr K hK
          have e7 : ev (.tmp 7) = _ := hb 7 (by kernel_rfl)
          have e194 := hr 1 _ rfl (by kernel_rfl)
          change ev (.tmp 194) = _ at e194
          have HK := Lib.hid hK
          have HC := Lib.hid hC
          clear hb hr hK hC hf
          have qp : ev (.tmp 7) = .pointer (some ⟨g7, 0, none⟩) := e7
          obtain ⟨O9, hO9, hs9⟩ := HC.out.shape g7 _ _ _ HX7.out
          have qv : ev (.tmp 194) = .agg (sxC y) := e194
          have hs8 : O9.size = ((sxC y) : Array Value).size := by rw [hs9]; rfl
          have hst := run_storeVar_row (P := Try.prog) w' g7 31 31 O9 (sxC y) hO9 (by kernel_rfl) hs8 (sx_ones _)
          unfold Run
          rw [rely_store 31 _ _ rfl qp qv hst]
          refine HK.out _ _ (.inr ⟨groD_set (D := (fun k => k = g6 ∨ k = g7)) (Gro.refl _) (.inr (rfl)) hO9 hs8, fun j hj u hr => ?_⟩) (setRow_heap _ _ _ _ _ _ hO9)
          rcases j with _ | _ | _ | _ | _ | _ | _ | _ | _ | _ | _ | _ | _ | j
          · exact hr
          · exact hr
          · exact hr
          · exact hr
          · exact hr
          · exact hr
          · exact hr
          · exact hr
          · exact hr
          · exact hr
          · exact sto_set (u := u) hr NE12.out
          · exact absurd rfl hj
          · exact hr
          · exact trivial
        · refine ⟨rfl, ?_⟩
          refine (if_pos (by decide)).mpr ?_
          intro ev w' hC hc hf hb hr K hK
          have e202 := hr 9 _ rfl (by kernel_rfl)
          change ev (.tmp 202) = _ at e202
          have HK := Lib.hid hK
          have HC := Lib.hid hC
          clear hb hr hK hC hf
          unfold Run
          simp [execOp, Upon, go_sem, *]
          exact HK.out _ _ (.inl (Below.refl _ _)) rfl
      · exact rl_mono ⟨is_mono _, is_mono _, is_mono _, is_mono _, is_mono _, is_mono _, is_mono _, is_mono _, is_mono _, is_mono _, sto_mono _ _ _, sto_mono _ _ _, is_mono _, trivial⟩
      intro us wr hG hH
      obtain ⟨-, -, -, -, -, -, -, -, -, -, h10, h11, h12, -⟩ := hH
      simp only [fillM]
      change us 8 = _ at h12
      rw [h12]
      clear h12
      change (Sto g6 (sqC (concS y) vD') 28 : Pred) undef wr at h10
      change (Sto g7 (sxC y) 31 : Pred) undef wr at h11
      generalize us 193 = v193
      generalize us 194 = v194
      generalize us 195 = v195
      generalize us 196 = v196
      generalize us 197 = v197
      generalize us 198 = v198
      generalize us 199 = v199
      generalize us 200 = v200
      generalize us 201 = v201
      generalize us 202 = v202
      have HV1 : Hid (wr.heap[g6]? = some (.cells (sqC (concS y) vD') 28 (0, 0))) := h10
      clear h10
      have HV2 : Hid (wr.heap[g7]? = some (.cells (sxC y) 31 (0, 0))) := h11
      clear h11
      clear HX6 HX7 HXA HXB NA6 NA7 NB6 NB7 NE12
      have FE := Lib.hid (F8.out.put2 (i := 3) (j := 2) rfl rfl (by decide) hG HV1.out HV2.out)
      clear hG F8
      have HBE := Lib.hid FE.out.below
      go_wp2
      refine ret_cct (g := g6) (g2 := g7) rfl rfl rfl (t := 28) (fr := (0, 0)) (FE.out.at (i := 3) rfl) Try.underlying28 rfl (by kernel_rfl) (t2 := 31) (fr2 := (0, 0)) (FE.out.at (i := 2) rfl) Try.underlying31 rfl (by kernel_rfl) rfl ?_
      exact ⟨_, rfl, FE.out.hand (i := 0) rfl, HBE.out⟩
  · as_aux_lemma =>
      have HY : Hid (y = ackS x (addS (addS x.first x.acked) nn)) := by show _ = _; rw [HST.out, if_neg (by decide), if_neg (by decide), if_neg (by decide), if_pos (by decide)]
      have HWA : Hid (((concS x).una + nn % 4294967296) % 4294967296 = addS (addS x.first x.acked) nn) := wrap_add (concS x).una nn
      have HAU : Hid (U32 (addS (addS x.first x.acked) nn)) := ⟨addS_ge _ _, addS_le _ _⟩
      obtain ⟨AT, hAT⟩ : ∃ AT, addS (addS x.first x.acked) nn = AT := ⟨_, rfl⟩
      rw [hAT] at HWA HAU HY
      have HCA := Lib.hid (fun w' S (hr : Rvs w' S (sqC (concS x) vD).toList (sqD (concS x))) => ack18_any x (sqC (concS x) vD) S AT w' hr HOX.out HAU.out)
      have HCB := Lib.hid (fun w' => refack_any x AT w' HOX.out HLX.out HAU.out)
      rw [← HY.out] at HCA HCB
      generalize ackN x AT = an at HCA HCB
      generalize ackE x AT = ae at HCA HCB
      clear HST HY hAT
      have q0 := sq_cells (F1.out.at (i := 4) rfl)
      go_upto_region 24 with (fail)
      rw [HWA.out]
      clear q0 HWA o0 o1 o2 o3
      go_wp2_with (refine wpList_load_row rfl 28 _ rfl g3 rfl 28 (sqC (concS x) vD) (0, 0) _ (F1.out.at (i := 4) rfl) Try.underlying28 rfl (by kernel_rfl) ?_)
      refine (HCA.out _ _ (F1.out.val (i := 1) rfl)).mono ?_
      rintro e w6 ⟨cs', rfl, hr, hb⟩
      obtain ⟨vD', rfl, -, h1⟩ := sq_of hr
      have H1 := Lib.hid h1
      have F2 := Lib.hid (F1.out.res hb hr)
      clear h1 hr hb F1 HCA
      go_upto_region 25 with (first | (refine wpList_store_new rfl 28 _ _ rfl w6 #[.int .u32 0, .slice none 0 0, .int .i64 0, .bool false, .bool false, .bool false] (sqC (concS y) vD') rfl rfl (by kernel_rfl) rfl H1.out ?_) | go_in)
      have F3 := Lib.hid (F2.out.alloc (sqC (concS y) vD') 28)
      obtain ⟨ga, hga⟩ : ∃ g, w6.heap.size = g := ⟨_, rfl⟩
      rw [hga] at F3 ⊢
      change Code.wp _ _ _ _ (w6.alloc (.cells (sqC (concS y) vD') 28))
      generalize w6.alloc (.cells (sqC (concS y) vD') 28) = w7 at F3 ⊢
      clear F2 hga
      go_wp2_with (refine wpList_load_row rfl 31 _ rfl g4 rfl 31 (sxC x) (0, 0) _ (F3.out.at (i := 4) rfl) Try.underlying31 rfl (by kernel_rfl) ?_)
      refine (HCB.out _).mono ?_
      rintro e w8 ⟨rfl, hb⟩
      have F4 := Lib.hid (F3.out.call hb)
      clear hb F3 HCB
      go_upto_region 26 with (first | (refine wpList_store_new rfl 31 _ _ rfl w8 Zsx (sxC y) rfl rfl (by kernel_rfl) rfl (sx_ones _) ?_) | go_in)
      have F8 := Lib.hid (F4.out.alloc (sxC y) 31)
      obtain ⟨gb, hgb⟩ : ∃ g, w8.heap.size = g := ⟨_, rfl⟩
      rw [hgb] at F8 ⊢
      change Code.wp _ _ _ _ (w8.alloc (.cells (sxC y) 31))
      generalize w8.alloc (.cells (sxC y) 31) = w9 at F8 ⊢
      clear F4 hgb
      have HX6 := Lib.hid (F8.out.at (i := 3) rfl)
      have HX7 := Lib.hid (F8.out.at (i := 2) rfl)
      have HXA := Lib.hid (F8.out.at (i := 1) rfl)
      have HXB := Lib.hid (F8.out.at (i := 0) rfl)
      have NE12 : Hid (g6 ≠ g7) := F8.out.ne (i := 3) (j := 2) rfl rfl (by decide)
      have NA6 : Hid (ga ≠ g6) := F8.out.ne (i := 1) (j := 3) rfl rfl (by decide)
      have NA7 : Hid (ga ≠ g7) := F8.out.ne (i := 1) (j := 2) rfl rfl (by decide)
      have NB6 : Hid (gb ≠ g6) := F8.out.ne (i := 0) (j := 3) rfl rfl (by decide)
      have NB7 : Hid (gb ≠ g7) := F8.out.ne (i := 0) (j := 2) rfl rfl (by decide)
      apply wp_region_relyQ (fun _ => true) (fun k => k = g6 ∨ k = g7) (RL [Is (.agg (sqC (concS y) vD')), Is (.agg (sxC y)), Is _, Is _, Is (.bool true), Is (.bool true), Is _, Is _, Is (.bool true), Is (.bool true), Sto g6 (sqC (concS y) vD') 28, Sto g7 (sxC y) 31, Is (.bool true)]) [false, false, false, false, false, false, false, false, true, false, false, false, false, false, false, false, false, false, false, false, false, false, false, false, false, false, false, false, false, false, false, false, false, false, false, false, false, false, false, false, false, false, false, false, false, false, false, false, false, false, false, false, false, false, false, false, false, false, false, false, false, false, false, false, false, false, false, false, false, false, false, false, false, false, false, false, false, false, false, false, false, false, false, false, false, false, false, false, false, false, false, false, false, false, false, false, false, false, false, false, false, false, false, false, false, false, false, false, false, false, false, false, false, false, false, false, false, false, false, false, false, false, false, false, false, false, false, false, false, false, false, false, false, false, false, false, false, false, false, false, false, false, false, false, false, false, false, false, false, false, false, false, false, false, false, false, false, false, false, false, false, false, false, false, false, false, false, false, false, false, false, false, false, false, false, false, false, false, false, false, false, false, false, false, false, false, false, false, false, false, false, false, false, true, true, true, true, true, true, true, true, true, true, false, false, false, false]
      · kernel_rfl
      · kernel_rfl
      · kernel_rfl
      · refine ⟨?_, ?_, ?_, ?_, ?_, ?_, ?_, ?_, ?_, ?_, ?_, ?_, ?_, trivial⟩
        · refine ⟨rfl, ?_⟩
          refine (if_pos (by decide)).mpr ?_
          intro ev w' hC hc hf hb hr K hK
          have e32 : ev (.tmp 32) = _ := hb 32 (by kernel_rfl)
          have HK := Lib.hid hK
          have HC := Lib.hid hC
          clear hb hr hK hC hf
          have q1 : ev (.tmp 32) = .pointer (some ⟨ga, 0, none⟩) := e32
          have hld := run_loadVar_row (P := Try.prog) w' ga 28 28 (sqC (concS y) vD') (0, 0) _ (gro_old HC.out HXA.out (fun e => by rcases e with e | e; exact NA6.out e; exact NA7.out e)) Try.underlying28 rfl (by kernel_rfl)
          unfold Run
          rw [rely_load 28 _ rfl q1 hld]
          exact HK.out _ _ (.inl (Below.refl _ _)) rfl
        · refine ⟨rfl, ?_⟩
          refine (if_pos (by decide)).mpr ?_
          intro ev w' hC hc hf hb hr K hK
          have e35 : ev (.tmp 35) = _ := hb 35 (by kernel_rfl)
          have HK := Lib.hid hK
          have HC := Lib.hid hC
          clear hb hr hK hC hf
          have q1 : ev (.tmp 35) = .pointer (some ⟨gb, 0, none⟩) := e35
          have hld := run_loadVar_row (P := Try.prog) w' gb 31 31 (sxC y) (0, 0) _ (gro_old HC.out HXB.out (fun e => by rcases e with e | e; exact NB6.out e; exact NB7.out e)) Try.underlying31 rfl (by kernel_rfl)
          unfold Run
          rw [rely_load 31 _ rfl q1 hld]
          exact HK.out _ _ (.inl (Below.refl _ _)) rfl
        · refine ⟨rfl, ?_⟩
          refine (if_pos (by decide)).mpr ?_
          intro ev w' hC hc hf hb hr K hK
          have e33 : ev (.tmp 33) = _ := hb 33 (by kernel_rfl)
          have HK := Lib.hid hK
          have HC := Lib.hid hC
          clear hb hr hK hC hf
          unfold Run
          simp [execOp, Upon, go_sem, *]
          exact HK.out _ _ (.inl (Below.refl _ _)) rfl
        · refine ⟨rfl, ?_⟩
          refine (if_pos (by decide)).mpr ?_
          intro ev w' hC hc hf hb hr K hK
          have e36 : ev (.tmp 36) = _ := hb 36 (by kernel_rfl)
          have HK := Lib.hid hK
          have HC := Lib.hid hC
          clear hb hr hK hC hf
          unfold Run
          simp [execOp, Upon, go_sem, *]
          exact HK.out _ _ (.inl (Below.refl _ _)) rfl
        · refine ⟨rfl, ?_⟩
          refine (if_pos (by decide)).mpr ?_
          intro ev w' hC hc hf hb hr K hK
          have e195 := hr 2 _ rfl (by kernel_rfl)
          have e196 := hr 3 _ rfl (by kernel_rfl)
          change ev (.tmp 195) = _ at e195
          change ev (.tmp 196) = _ at e196
          have HK := Lib.hid hK
          have HC := Lib.hid hC
          clear hb hr hK hC hf
          unfold Run
          simp [execOp, Upon, go_sem, *]
          exact HK.out _ _ (.inl (Below.refl _ _)) rfl
        · refine ⟨rfl, ?_⟩
          refine (if_pos (by decide)).mpr ?_
          intro ev w' hC hc hf hb hr K hK
          have e197 := hr 4 _ rfl (by kernel_rfl)
          change ev (.tmp 197) = _ at e197
          have HK := Lib.hid hK
          have HC := Lib.hid hC
          clear hb hr hK hC hf
          unfold Run
          simp [execOp, Upon, go_sem, *]
          exact HK.out _ _ (.inl (Below.refl _ _)) rfl
        · refine ⟨⟨_, _, rfl, rfl, fun v w h => h⟩, ?_⟩
          refine (if_pos (by decide)).mpr ?_
          intro ev w' hC hc hf hb hr K hK
          have e34 : ev (.tmp 34) = _ := hb 34 (by kernel_rfl)
          have HK := Lib.hid hK
          have HC := Lib.hid hC
          clear hb hr hK hC hf
          unfold Run
          simp [execOp, Upon, go_sem, *]
          exact HK.out _ _ (.inl (Below.refl _ _)) rfl
        · refine ⟨⟨_, _, rfl, rfl, fun v w h => h⟩, ?_⟩
          refine (if_pos (by decide)).mpr ?_
          intro ev w' hC hc hf hb hr K hK
          have e37 : ev (.tmp 37) = _ := hb 37 (by kernel_rfl)
          have HK := Lib.hid hK
          have HC := Lib.hid hC
          clear hb hr hK hC hf
          unfold Run
          simp [execOp, Upon, go_sem, *]
          exact HK.out _ _ (.inl (Below.refl _ _)) rfl
        · refine ⟨⟨_, _, rfl, rfl, fun v w h => h⟩, ?_⟩
          refine (if_pos (by decide)).mpr ?_
          intro ev w' hC hc hf hb hr K hK
          have e199 := hr 6 _ rfl (by kernel_rfl)
          have e200 := hr 7 _ rfl (by kernel_rfl)
          change ev (.tmp 199) = _ at e199
          change ev (.tmp 200) = _ at e200
          have HK := Lib.hid hK
          have HC := Lib.hid hC
          clear hb hr hK hC hf
          unfold Run
          simp [execOp, Upon, go_sem, *]
          exact HK.out _ _ (.inl (Below.refl _ _)) rfl
        · refine ⟨rfl, ?_⟩
          refine (if_pos (by decide)).mpr ?_
          intro ev w' hC hc hf hb hr K hK
          have e198 := hr 5 _ rfl (by kernel_rfl)
          have e201 := hr 8 _ rfl (by kernel_rfl)
          change ev (.tmp 198) = _ at e198
          change ev (.tmp 201) = _ at e201
          have HK := Lib.hid hK
          have HC := Lib.hid hC
          clear hb hr hK hC hf
          unfold Run
          simp [execOp, Upon, go_sem, *]
          exact HK.out _ _ (.inl (Below.refl _ _)) rfl
        · refine ⟨rfl, ?_⟩
          refine (if_pos (by decide)).mpr ?_
          intro ev w' hC hc hf hb hr K hK
          have e6 : ev (.tmp 6) = _ := hb 6 (by kernel_rfl)
          have e193 := hr 0 _ rfl (by kernel_rfl)
          change ev (.tmp 193) = _ at e193
          have HK := Lib.hid hK
          have HC := Lib.hid hC
          clear hb hr hK hC hf
          have qp : ev (.tmp 6) = .pointer (some ⟨g6, 0, none⟩) := e6
          obtain ⟨O9, hO9, hs9⟩ := HC.out.shape g6 _ _ _ HX6.out
          have qv : ev (.tmp 193) = .agg (sqC (concS y) vD') := e193
          have hs8 : O9.size = ((sqC (concS y) vD') : Array Value).size := by rw [hs9]; rfl
          have hst := run_storeVar_row (P := Try.prog) w' g6 28 28 O9 (sqC (concS y) vD') hO9 (by kernel_rfl) hs8 H1.out
          unfold Run
          rw [rely_store 28 _ _ rfl qp qv hst]
          refine HK.out _ _ (.inr ⟨groD_set (D := (fun k => k = g6 ∨ k = g7)) (Gro.refl _) (.inl rfl) hO9 hs8, fun j hj u hr => ?_⟩) (setRow_heap _ _ _ _ _ _ hO9)
          rcases j with _ | _ | _ | _ | _ | _ | _ | _ | _ | _ | _ | _ | _ | j
          · exact hr
          · exact hr
          · exact hr
          · exact hr
          · exact hr
          · exact hr
          · exact hr
          · exact hr
          · exact hr
          · exact hr
          · exact absurd rfl hj
          · exact sto_set (u := u) hr (Ne.symm NE12.out)
          · exact hr
          · exact trivial
        · refine ⟨rfl, ?_⟩
          refine (if_pos (by decide)).mpr ?_
          intro ev w' hC hc hf hb hr K hK
          have e7 : ev (.tmp 7) = _ := hb 7 (by kernel_rfl)
          have e194 := hr 1 _ rfl (by kernel_rfl)
          change ev (.tmp 194) = _ at e194
          have HK := Lib.hid hK
          have HC := Lib.hid hC
          clear hb hr hK hC hf
          have qp : ev (.tmp 7) = .pointer (some ⟨g7, 0, none⟩) := e7
          obtain ⟨O9, hO9, hs9⟩ := HC.out.shape g7 _ _ _ HX7.out
          have qv : ev (.tmp 194) = .agg (sxC y) := e194
          have hs8 : O9.size = ((sxC y) : Array Value).size := by rw [hs9]; rfl
          have hst := run_storeVar_row (P := Try.prog) w' g7 31 31 O9 (sxC y) hO9 (by kernel_rfl) hs8 (sx_ones _)
          unfold Run
          rw [rely_store 31 _ _ rfl qp qv hst]
          refine HK.out _ _ (.inr ⟨groD_set (D := (fun k => k = g6 ∨ k = g7)) (Gro.refl _) (.inr (rfl)) hO9 hs8, fun j hj u hr => ?_⟩) (setRow_heap _ _ _ _ _ _ hO9)
          rcases j with _ | _ | _ | _ | _ | _ | _ | _ | _ | _ | _ | _ | _ | j
          · exact hr
          · exact hr
          · exact hr
          · exact hr
          · exact hr
          · exact hr
          · exact hr
          · exact hr
          · exact hr
          · exact hr
          · exact sto_set (u := u) hr NE12.out
          · exact absurd rfl hj
          · exact hr
          · exact trivial
        · refine ⟨rfl, ?_⟩
          refine (if_pos (by decide)).mpr ?_
          intro ev w' hC hc hf hb hr K hK
          have e202 := hr 9 _ rfl (by kernel_rfl)
          change ev (.tmp 202) = _ at e202
          have HK := Lib.hid hK
          have HC := Lib.hid hC
          clear hb hr hK hC hf
          unfold Run
          simp [execOp, Upon, go_sem, *]
          exact HK.out _ _ (.inl (Below.refl _ _)) rfl
      · exact rl_mono ⟨is_mono _, is_mono _, is_mono _, is_mono _, is_mono _, is_mono _, is_mono _, is_mono _, is_mono _, is_mono _, sto_mono _ _ _, sto_mono _ _ _, is_mono _, trivial⟩
      intro us wr hG hH
      obtain ⟨-, -, -, -, -, -, -, -, -, -, h10, h11, h12, -⟩ := hH
      simp only [fillM]
      change us 8 = _ at h12
      rw [h12]
      clear h12
      change (Sto g6 (sqC (concS y) vD') 28 : Pred) undef wr at h10
      change (Sto g7 (sxC y) 31 : Pred) undef wr at h11
      generalize us 193 = v193
      generalize us 194 = v194
      generalize us 195 = v195
      generalize us 196 = v196
      generalize us 197 = v197
      generalize us 198 = v198
      generalize us 199 = v199
      generalize us 200 = v200
      generalize us 201 = v201
      generalize us 202 = v202
      have HV1 : Hid (wr.heap[g6]? = some (.cells (sqC (concS y) vD') 28 (0, 0))) := h10
      clear h10
      have HV2 : Hid (wr.heap[g7]? = some (.cells (sxC y) 31 (0, 0))) := h11
      clear h11
      clear HX6 HX7 HXA HXB NA6 NA7 NB6 NB7 NE12
      have FE := Lib.hid (F8.out.put2 (i := 3) (j := 2) rfl rfl (by decide) hG HV1.out HV2.out)
      clear hG F8
      have HBE := Lib.hid FE.out.below
      go_wp2
      refine ret_cct (g := g6) (g2 := g7) rfl rfl rfl (t := 28) (fr := (0, 0)) (FE.out.at (i := 3) rfl) Try.underlying28 rfl (by kernel_rfl) (t2 := 31) (fr2 := (0, 0)) (FE.out.at (i := 2) rfl) Try.underlying31 rfl (by kernel_rfl) rfl ?_
      exact ⟨_, rfl, FE.out.hand (i := 0) rfl, HBE.out⟩
  · as_aux_lemma =>
      have HY : Hid (y = closeS x) := by show _ = _; rw [HST.out, if_neg (by decide), if_neg (by decide), if_neg (by decide), if_neg (by decide)]
      have HSX : Hid ((sxC x).setIfInBounds 4 (.bool true) = sxC y) := by show _ = _; rw [HY.out]; rfl
      have HCA := Lib.hid (fun w' S (hr : Rvs w' S (sqC (concS x) vD).toList (sqD (concS x))) => close18_any x (sqC (concS x) vD) S w' hr HOX.out)
      rw [← HY.out] at HCA
      clear HST HY
      have c4 : w0.cell? ⟨g4, 4, none⟩ = some (.bool x.fin) := (cell_of_row _ _ _ _ _ _ (F1.out.at (i := 3) rfl)).trans rfl
      have hfz := frozen_of_row w0 g4 4 _ _ (F1.out.at (i := 3) rfl)
      have HSC : Hid (w0.setCell ⟨g4, 4, none⟩ (.bool true) = w0.setRow g4 (sxC y)) := by show _ = _; rw [setCell_eq_setRow w0 g4 4 _ _ (0, 0) _ (F1.out.at (i := 3) rfl), HSX.out]
      go_upto_region 28 with (fail)
      rw [HSC.out]
      clear hfz c4 HSC
      have F2 := Lib.hid (F1.out.put (i := 3) rfl (sxC y))
      have F8 : Hid (Frs S w (w0.setRow g4 (sxC y)) [(g7, Zsx, 31), (g6, #[.int .u32 0, .slice none 0 0, .int .i64 0, .bool false, .bool false, .bool false], 28), (g5, #[.int .i64 kd, .slice B k eb, .int .i64 nn, .int .i64 sz], 33), (g4, (sxC y), 31), (g3, (sqC (concS x) vD), 28)] [([.slice B k eb], [bytesD D]), ((sqC (concS x) vD).toList, sqD (concS x))]) := F2
      generalize w0.setRow g4 (sxC y) = w9 at F8 ⊢
      clear F1 F2 HSX o0 o1 o2 o3
      have HX6 := Lib.hid (F8.out.at (i := 1) rfl)
      have HX7 := Lib.hid (F8.out.at (i := 0) rfl)
      have HXA := Lib.hid (F8.out.at (i := 4) rfl)
      have HXB := Lib.hid (F8.out.at (i := 3) rfl)
      have HQV : Hid (Rvs w9 (Ns S w [g7, g6, g5, g4, g3]) (sqC (concS x) vD).toList (sqD (concS x))) := F8.out.val (i := 1) rfl
      have HBIG : Hid (∀ b, w9.heap.size ≤ b → (Ns S w [g7, g6, g5, g4, g3]) b) := fun b hb => ⟨fun hm => by have := F8.out.lt b hm; omega, .inr (Nat.le_trans F8.out.below.size hb)⟩
      have HS1 : Hid (¬ (Ns S w [g7, g6, g5, g4, g3]) g6) := fun h => h.1 (by simp)
      have HS2 : Hid (¬ (Ns S w [g7, g6, g5, g4, g3]) g7) := fun h => h.1 (by simp)
      have NE12 : Hid (g6 ≠ g7) := F8.out.ne (i := 1) (j := 0) rfl rfl (by decide)
      have NA6 : Hid (g3 ≠ g6) := F8.out.ne (i := 4) (j := 1) rfl rfl (by decide)
      have NA7 : Hid (g3 ≠ g7) := F8.out.ne (i := 4) (j := 0) rfl rfl (by decide)
      have NB6 : Hid (g4 ≠ g6) := F8.out.ne (i := 3) (j := 1) rfl rfl (by decide)
      have NB7 : Hid (g4 ≠ g7) := F8.out.ne (i := 3) (j := 0) rfl rfl (by decide)
      apply wp_region_relyQ (fun _ => true) (fun k => k = g6 ∨ k = g7) (RL [Is (.agg (sqC (concS x) vD)), Rd1 (Ns S w [g7, g6, g5, g4, g3]) (sqD (concS y)), Is (.agg (sxC y)), StoD (Ns S w [g7, g6, g5, g4, g3]) g6 (sqD (concS y)) 28, Sto g7 (sxC y) 31, Is (.bool true)]) [false, false, false, false, false, false, false, false, true, false, false, false, false, false, false, false, false, false, false, false, false, false, false, false, false, false, false, false, false, false, false, false, false, false, false, false, false, false, false, false, false, false, false, false, false, false, false, false, false, false, false, false, false, false, false, false, false, false, false, false, false, false, false, false, false, false, false, false, false, false, false, false, false, false, false, false, false, false, false, false, false, false, false, false, false, false, false, false, false, false, false, false, false, false, false, false, false, false, false, false, false, false, false, false, false, false, false, false, false, false, false, false, false, false, false, false, false, false, false, false, false, false, false, false, false, false, false, false, false, false, false, false, false, false, false, false, false, false, false, false, false, false, false, false, false, false, false, false, false, false, false, false, false, false, false, false, false, false, false, false, false, false, false, false, false, false, false, false, false, false, false, false, false, false, false, false, false, false, false, false, false, false, false, false, false, false, false, false, false, false, false, false, false, false, false, false, false, false, false, false, false, false, false, false, true, true, true]
      · kernel_rfl
      · kernel_rfl
      · kernel_rfl
      · refine ⟨?_, ?_, ?_, ?_, ?_, ?_, trivial⟩
        · refine ⟨rfl, ?_⟩
          refine (if_pos (by decide)).mpr ?_
          intro ev w' hC hc hf hb hr K hK
          have e3 : ev (.tmp 3) = _ := hb 3 (by kernel_rfl)
          have HK := Lib.hid hK
          have HC := Lib.hid hC
          clear hb hr hK hC hf
          have q1 : ev (.tmp 3) = .pointer (some ⟨g3, 0, none⟩) := e3
          have hld := run_loadVar_row (P := Try.prog) w' g3 28 28 (sqC (concS x) vD) (0, 0) _ (gro_old HC.out HXA.out (fun e => by rcases e with e | e; exact NA6.out e; exact NA7.out e)) Try.underlying28 rfl (by kernel_rfl)
          unfold Run
          rw [rely_load 28 _ rfl q1 hld]
          exact HK.out _ _ (.inl (Below.refl _ _)) rfl
        · refine ⟨rfl, ?_⟩
          refine (if_pos (by decide)).mpr ?_
          intro ev w' hC hc hf hb hr K hK
          have e204 := hr 0 _ rfl (by kernel_rfl)
          change ev (.tmp 204) = _ at e204
          have HK := Lib.hid hK
          have HC := Lib.hid hC
          clear hb hr hK hC
          unfold Run
          simp [execOp, Upon, go_sem, *]
          refine (HCA.out w' (Ns S w [g7, g6, g5, g4, g3]) (rvs_gro HQV.out HC.out (fun b hb e => hb.1 (by rcases e with e | e <;> simp [e])))).mono ?_
          rintro e w2 ⟨cs', rfl, hr, hb⟩
          refine ⟨_, rfl, HK.out _ _ (.inl hb) ⟨cs', rfl, hr.wide fun b hb2 => ?_⟩⟩
          rcases hb2 with hb2 | hb2
          · exact hb2
          · exact HBIG.out b (Nat.le_trans HC.out.size hb2)
        · refine ⟨rfl, ?_⟩
          refine (if_pos (by decide)).mpr ?_
          intro ev w' hC hc hf hb hr K hK
          have e4 : ev (.tmp 4) = _ := hb 4 (by kernel_rfl)
          have HK := Lib.hid hK
          have HC := Lib.hid hC
          clear hb hr hK hC hf
          have q1 : ev (.tmp 4) = .pointer (some ⟨g4, 0, none⟩) := e4
          have hld := run_loadVar_row (P := Try.prog) w' g4 31 31 (sxC y) (0, 0) _ (gro_old HC.out HXB.out (fun e => by rcases e with e | e; exact NB6.out e; exact NB7.out e)) Try.underlying31 rfl (by kernel_rfl)
          unfold Run
          rw [rely_load 31 _ rfl q1 hld]
          exact HK.out _ _ (.inl (Below.refl _ _)) rfl
        · refine ⟨rfl, ?_⟩
          refine (if_pos (by decide)).mpr ?_
          intro ev w' hC hc hf hb hr K hK
          have e6 : ev (.tmp 6) = _ := hb 6 (by kernel_rfl)
          have e205 := hr 1 _ rfl (by kernel_rfl)
          change (Rd1 (Ns S w [g7, g6, g5, g4, g3]) (sqD (concS y)) : Pred) (ev (.tmp 205)) _ at e205
          have HK := Lib.hid hK
          have HC := Lib.hid hC
          clear hb hr hK hC hf
          have qp : ev (.tmp 6) = .pointer (some ⟨g6, 0, none⟩) := e6
          obtain ⟨O9, hO9, hs9⟩ := HC.out.shape g6 _ _ _ HX6.out
          obtain ⟨C9, hC9, hr9⟩ := e205
          have hn9 : C9.size = 6 := hr9.1
          have hs8 : O9.size = C9.size := by rw [hn9]; exact hs9
          have hst := run_storeVar_row (P := Try.prog) w' g6 28 28 O9 C9 hO9 (by rw [hn9]; kernel_rfl) hs8 (Array.all_eq_true_iff_forall_mem.2 fun u hu => hr9.ones u (by simpa using hu))
          unfold Run
          rw [rely_store 28 _ _ rfl qp hC9 hst]
          refine HK.out _ _ (.inr ⟨groD_set (D := (fun k => k = g6 ∨ k = g7)) (Gro.refl _) (.inl rfl) hO9 hs8, fun j hj u hr => ?_⟩) (⟨C9, setRow_heap _ _ _ _ _ _ hO9, hr9.setRow HS1.out C9⟩)
          rcases j with _ | _ | _ | _ | _ | _ | j
          · exact hr
          · exact rd1_set hr HS1.out _
          · exact hr
          · exact absurd rfl hj
          · exact sto_set (u := u) hr (Ne.symm NE12.out)
          · exact hr
          · exact trivial
        · refine ⟨rfl, ?_⟩
          refine (if_pos (by decide)).mpr ?_
          intro ev w' hC hc hf hb hr K hK
          have e7 : ev (.tmp 7) = _ := hb 7 (by kernel_rfl)
          have e206 := hr 2 _ rfl (by kernel_rfl)
          change ev (.tmp 206) = _ at e206
          have HK := Lib.hid hK
          have HC := Lib.hid hC
          clear hb hr hK hC hf
          have qp : ev (.tmp 7) = .pointer (some ⟨g7, 0, none⟩) := e7
          obtain ⟨O9, hO9, hs9⟩ := HC.out.shape g7 _ _ _ HX7.out
          have qv : ev (.tmp 206) = .agg (sxC y) := e206
          have hs8 : O9.size = ((sxC y) : Array Value).size := by rw [hs9]; rfl
          have hst := run_storeVar_row (P := Try.prog) w' g7 31 31 O9 (sxC y) hO9 (by kernel_rfl) hs8 (sx_ones _)
          unfold Run
          rw [rely_store 31 _ _ rfl qp qv hst]
          refine HK.out _ _ (.inr ⟨groD_set (D := (fun k => k = g6 ∨ k = g7)) (Gro.refl _) (.inr (rfl)) hO9 hs8, fun j hj u hr => ?_⟩) (setRow_heap _ _ _ _ _ _ hO9)
          rcases j with _ | _ | _ | _ | _ | _ | j
          · exact hr
          · exact rd1_set hr HS2.out _
          · exact hr
          · exact stod_set (u := u) hr NE12.out HS2.out
          · exact absurd rfl hj
          · exact hr
          · exact trivial
        · refine ⟨rfl, ?_⟩
          refine (if_pos (by decide)).mpr ?_
          intro ev w' hC hc hf hb hr K hK
          have HK := Lib.hid hK
          have HC := Lib.hid hC
          clear hb hr hK hC hf
          unfold Run
          simp [execOp, Upon, go_sem, *]
          exact HK.out _ _ (.inl (Below.refl _ _)) rfl
      · exact rl_mono ⟨is_mono _, rd1_mono _ _, is_mono _, stod_mono _ _ _ _, sto_mono _ _ _, is_mono _, trivial⟩
      intro us wr hG hH
      obtain ⟨-, -, -, h3, h4, h5, -⟩ := hH
      simp only [fillM]
      change us 8 = _ at h5
      rw [h5]
      clear h5
      change (StoD (Ns S w [g7, g6, g5, g4, g3]) g6 (sqD (concS y)) 28 : Pred) undef wr at h3
      change (Sto g7 (sxC y) 31 : Pred) undef wr at h4
      generalize us 204 = v204
      generalize us 205 = v205
      generalize us 206 = v206
      obtain ⟨C1, hv9, hr9⟩ := h3
      have HV1 := Lib.hid hv9
      have HR1 := Lib.hid hr9
      clear hv9 hr9
      have HV2 : Hid (wr.heap[g7]? = some (.cells (sxC y) 31 (0, 0))) := h4
      clear h4
      clear HX6 HX7 HXA HXB NA6 NA7 NB6 NB7 NE12 HQV HBIG HS1 HS2
      have FE := Lib.hid ((F8.out.put2 (i := 1) (j := 0) rfl rfl (by decide) hG HV1.out HV2.out).add (us := C1.toList) (ds := sqD (concS y)) HR1.out)
      clear hG F8
      have HCS : Hid (C1.size = 6) := HR1.out.1
      have HBE := Lib.hid FE.out.below
      go_wp2
      refine ret_cct (g := g6) (g2 := g7) rfl rfl rfl (t := 28) (fr := (0, 0)) (FE.out.at (i := 1) rfl) Try.underlying28 rfl (by rw [HCS.out]; kernel_rfl) (t2 := 31) (fr2 := (0, 0)) (FE.out.at (i := 0) rfl) Try.underlying31 rfl (by kernel_rfl) rfl ?_
      exact ⟨_, rfl, FE.out.hand (i := 0) rfl, HBE.out⟩
end Go.Proofs.Ytebflcpoecolbaa
