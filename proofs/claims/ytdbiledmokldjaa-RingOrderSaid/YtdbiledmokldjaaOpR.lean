/-
  What is done with a ring, among a law's arguments; fits, at, lives. No condition.
-/
import Derived.Test.YtdbiledmokldjaaLik
import Derived.Test.YtdbiledmokldjaaShape
import Derived.Lib.SlBytesConst
namespace Go.Proofs.Ytdbiledmokldjaa
open Go.RowKit

structure Opp where
  kind : Int
  data : Fr
def opC (o : Opp) (v : Value) : List Value := [.int .i64 o.kind, v]
/-- the i-th op, read behind head A in blocks below hi -/
def OpAt (w : World) (hi : Nat) (A : Option Addr) (i : Nat) (o : Opp) : Prop :=
  ∃ ad A' c, A = some ad ∧ ad.block < hi ∧ (∀ j u, (opC o (.slice A' o.data.length c))[j]? = some u → w.cell? ((ad.add (i * 2)).add j) = some u) ∧ Rd w 0 hi A' (cells o.data) ∧ (A' = none → c = 0) ∧ o.data.length ≤ c ∧ c ≤ 140737488351232 ∧ I64 o.kind
def OpsT (w : World) (hi : Nat) (A : Option Addr) (l : List Opp) : Prop := ∀ i o, l[i]? = some o → OpAt w hi A i o
theorem OpAt.below {w w' : World} {hi B i : Nat} {A : Option Addr} {o : Opp} (h : OpAt w hi A i o) (hb : Below B w w') (hB : hi ≤ B) : OpAt w' hi A i o := by
  obtain ⟨ad, A', c, e, h0, h1, h2, h3⟩ := h
  exact ⟨ad, A', c, e, h0, fun j u hu => (hb.cell (p := (ad.add (i * 2)).add j) (by rw [blk_add, blk_add]; omega)).trans (h1 j u hu), h2.below hb hB, h3⟩
theorem OpsT.below {w w' : World} {hi B : Nat} {A : Option Addr} {l : List Opp} (h : OpsT w hi A l) (hb : Below B w w') (hB : hi ≤ B) : OpsT w' hi A l := fun i o hi => (h i o hi).below hb hB
abbrev ShOp : Sh := .cat (.num .i64) (.cat (.sl (.num .u8)) .non)
theorem i64_of {z : Int} (h : (Lit.int .i64 z).wf = true) : I64 z := by
  simp [Lit.wf, IntKind.min, IntKind.max, IntKind.signed, IntKind.bits] at h
  unfold I64
  omega
theorem ops_of {w : World} {A : Option Addr} {len cap : Nat} (h : (Sh.sl ShOp).ok w [.slice A len cap]) : ∃ l : List Opp, l.length = len ∧ len ≤ cap ∧ cap ≤ 140737488351232 ∧ OpsT w w.heap.size A l := by
  rcases h with h | ⟨ad, len', cap', h, h1, h2, h3⟩
  · simp at h
    obtain ⟨rfl, rfl, rfl⟩ := h
    exact ⟨[], rfl, Nat.le_refl _, Nat.zero_le _, fun i o hi => by simp at hi⟩
  · simp at h
    obtain ⟨rfl, rfl, rfl⟩ := h
    have h4 : ∀ i, i < len → ∃ o, OpAt w w.heap.size (some ad) i o := fun i hi => by
      obtain ⟨c, _, hc, c1, c2, rfl, ⟨k, rfl, hk⟩, c3, c4, rfl, h7, rfl⟩ := h3 i hi
      obtain ⟨A', m, cc, rfl⟩ : ∃ A' m cc, c3 = [.slice A' m cc] := by
        rcases h7 with rfl | ⟨ad, len, cap, rfl, _⟩
        · exact ⟨none, 0, 0, rfl⟩
        · exact ⟨some ad, len, cap, rfl⟩
      obtain ⟨d, hd, hc1, hc2, hr, hA⟩ := sl_bytes h7
      subst hd
      have hz := hc 0 (.int .i64 k) rfl
      have hlt := cell_lt hz
      rw [blk_add] at hlt
      refine ⟨⟨k, d⟩, ad, A', cc, rfl, hlt, fun j u hu => ?_, hr, hA, hc1, hc2, i64_of hk⟩
      rw [add_twice]
      exact hc j u hu
    have h5 : ∀ n, n ≤ len → ∃ l : List Opp, l.length = n ∧ OpsT w w.heap.size (some ad) l := by
      intro n
      induction n with
      | zero => intro _; exact ⟨[], rfl, fun i o hi => by simp at hi⟩
      | succ n ih =>
        intro hn
        obtain ⟨l, hl, hc⟩ := ih (by omega)
        obtain ⟨o, ho⟩ := h4 n (by omega)
        refine ⟨l ++ [o], by simp [hl], fun i y hy => ?_⟩
        rcases Nat.lt_or_ge i l.length with hi | hi
        · rw [List.getElem?_append_left hi] at hy
          exact hc i y hy
        · rw [List.getElem?_append_right hi] at hy
          have hi0 : i - l.length = 0 := by
            have := (List.getElem?_eq_some_iff.1 hy).1
            simp at this
            omega
          rw [hi0] at hy
          simp at hy
          subst hy
          rw [show i = n from by omega]
          exact ho
    obtain ⟨l, hl, hc⟩ := h5 len (Nat.le_refl _)
    exact ⟨l, hl, h1, h2, hc⟩

def fitsB (l : List Opp) : Bool := l.all (fun o => decide (o.data.length ≤ 300)) && decide (l.length ≤ 100)
set_option maxRecDepth 100000 in
set_option maxHeartbeats 400000 in
theorem fits_any (A : Option Addr) (n c hi : Nat) (l : List Opp) (w : World) (h : OpsT w hi A l) (hhi : hi ≤ w.heap.size) (hl : l.length = n) (hn : n ≤ 140737488351232) :
    Calls Try.prog 7 #[.slice A n c] w fun e w' => e = .returned (.bool (fitsB l)) ∧ Below w.heap.size w w' := by
  have HO := Lib.hid h
  have HHI := Lib.hid hhi
  have HL := Lib.hid hl
  clear h hhi hl
  go_enter Try.func7, Try.ntmps7
  go_wp2
  go_loopw [7] (fun t7 wr => ∃ k : Nat, k ≤ n ∧ t7 = .int .i64 (k : Int) ∧ Hid (∀ i o, i < k → l[i]? = some o → o.data.length ≤ 300) ∧ Hid (Below w.heap.size w wr)) (fun t7 _ => n - (intOf t7).toNat)
  case atStart => exact ⟨0, Nat.zero_le _, rfl, Lib.hid (fun i o hi => by omega), Lib.hid (Below.refl _ _)⟩
  case round =>
    obtain ⟨k, hk, rfl, HNO, HBEL⟩ := hrel
    by_cases hlt : k < n
    · obtain ⟨o, ho⟩ : ∃ o, l[k]? = some o := ⟨_, List.getElem?_eq_getElem (by rw [HL.out]; exact hlt)⟩
      obtain ⟨ad, A', cc, rfl, -, hcs, -, -, hdc, hcc, -⟩ := (HO.out k o ho).below HBEL.out HHI.out
      have HEL := Lib.hid hcs
      have HOO := Lib.hid ho
      have HB2 : Hid (Below w.heap.size w (wr.alloc (.cells #[.int .i64 o.kind, .slice A' o.data.length cc] 37))) := HBEL.out.alloc HBEL.out.size _
      unfold opC at HEL
      clear hcs ho
      by_cases q : o.data.length ≤ 300
      · have HN2 : Hid (∀ i o, i < k + 1 → l[i]? = some o → o.data.length ≤ 300) := fun i o' hi ho' => by
          by_cases hik : i < k
          · exact HNO.out i o' hik ho'
          · obtain rfl : i = k := by omega
            rw [HOO.out] at ho'
            injection ho' with ho'
            rw [← ho']
            exact q
        go_wp2_with (refine wpList_load_at rfl 37 _ rfl (ad.add (k * 2)) rfl _ _ HEL.out Try.underlying37 rfl (by kernel_rfl) ?_)
        go_roundw
        case rel => exact ⟨k + 1, by omega, by go_num, HN2, HB2⟩
        case measure => simp [intOf]; omega
      · have HV : Hid (fitsB l = false) := by
          show _ = _
          unfold fitsB
          rw [List.all_eq_false.2 ⟨o, List.mem_of_getElem? HOO.out, by simpa using q⟩, Bool.false_and]
        go_wp2_with (refine wpList_load_at rfl 37 _ rfl (ad.add (k * 2)) rfl _ _ HEL.out Try.underlying37 rfl (by kernel_rfl) ?_)
        go_ret
        exact ⟨by rw [HV.out]; rfl, HB2.out⟩
    · obtain rfl : k = n := by omega
      have HV : Hid (fitsB l = decide ((k : Int) ≤ 100)) := by
        show _ = _
        unfold fitsB
        rw [List.all_eq_true.2 fun o ho => by
          obtain ⟨i, hi, rfl⟩ := List.mem_iff_getElem.1 ho
          exact decide_eq_true (HNO.out i _ (by rw [← HL.out]; exact hi) (List.getElem?_eq_getElem hi)), Bool.true_and, HL.out]
        congr 1
        apply propext
        omega
      go_wp2
      go_ret
      exact ⟨by rw [HV.out]; rfl, HBEL.out⟩

theorem u16_of {z : Int} (h : (Lit.int .u16 z).wf = true) : ∃ k : Nat, z = (k : Int) ∧ k < 65536 := by
  simp [Lit.wf, IntKind.min, IntKind.max, IntKind.signed, IntKind.bits] at h
  exact ⟨z.toNat, by omega, by omega⟩
theorem ret_cc {P : Program} {fn : Func} {R : Ending → World → Prop} {a : Act} {w : World} {p q : Tmp} {ty ty2 : TypeId} {g g2 : Nat} {cs ds : Array Value} {t t2 : TypeId} {fr fr2 : Nat × Nat} {d d2 : TypeDesc} (h : fn.results = #[.cell p ty, .cell q ty2]) (hp : a.tmps.getD p undef = .pointer (some ⟨g, 0, none⟩)) (hq : a.tmps.getD q undef = .pointer (some ⟨g2, 0, none⟩))
    (hg : w.heap[g]? = some (.cells cs t fr)) (hu : P.underlying ty = some d) (hd : d.isRow = true) (hi : (P.info? ty).map (·.size) = some cs.size) (hg2 : w.heap[g2]? = some (.cells ds t2 fr2)) (hu2 : P.underlying ty2 = some d2) (hd2 : d2.isRow = true) (hi2 : (P.info? ty2).map (·.size) = some ds.size) (hdf : a.defers = []) (hR : R (.returned (.tuple #[.agg cs, .agg ds])) w) : bodyPost P fn R .ret a w := by
  refine bodyPost_ret (v := .tuple #[.agg cs, .agg ds]) ?_ hdf hR
  have hp' : a.tmps[p]?.getD undef = .pointer (some ⟨g, 0, none⟩) := by simpa using hp
  have hq' : a.tmps[q]?.getD undef = .pointer (some ⟨g2, 0, none⟩) := by simpa using hq
  simp [results, h, hp', hq', asAddr, run_loadVar_row w g t ty cs fr d hg hu (by cases d <;> first | rfl | cases hd) hi, run_loadVar_row w g2 t2 ty2 ds fr2 d2 hg2 hu2 (by cases d2 <;> first | rfl | cases hd2) hi2]
theorem new_c {n c : Nat} (hc : c < 65536) : (newX n c).p = c ∧ (newX n c).t = c ∧ (newX n c).d = c := by
  refine ⟨?_, ?_, ?_⟩ <;> (show (c + 0) % 65536 = c; omega)
set_option maxRecDepth 100000 in
set_option maxHeartbeats 4000000 in
theorem at_any (n k : Nat) (hn : MayN n) (hk : k < 65536) (w : World) :
    Calls Try.prog 8 #[.int .i64 (n : Int), .int .u16 (k : Int)] w fun e w' => ∃ v u H, e = .returned (.tuple #[v, u]) ∧ Rg w.heap.size H (newX n k) w' v ∧ H ≤ w'.heap.size ∧ Rf (newX n k) w' u ∧ Below w.heap.size w w' := by
  have hpos := hn.pos
  obtain ⟨hp1, hp2⟩ := hpos
  obtain ⟨N, hN⟩ : ∃ N, w.heap.size = N := ⟨_, rfl⟩
  obtain ⟨w1, hw1⟩ : ∃ w1, (w.alloc (.cells #[.slice none 0 0, .int .u16 0, .int .u16 0, .int .u16 0, .int .u16 0] 29)).alloc (.cells #[.int .i64 0, .slice none 0 0, .slice none 0 0, .slice none 0 0, .int .i64 0] 32) = w1 := ⟨_, rfl⟩
  have HB1 : Hid (Below N w w1) := by rw [← hw1]; exact ((Below.refl _ _).alloc (by omega) _).alloc (by simp; omega) _
  have RX1 : Hid (w1.heap[N]? = some (.cells #[.slice none 0 0, .int .u16 0, .int .u16 0, .int .u16 0, .int .u16 0] 29 (0, 0))) := by rw [← hw1, ← hN]; exact old_alloc (heap_alloc_new w _) _
  have RY1 : Hid (w1.heap[N + 1]? = some (.cells #[.int .i64 0, .slice none 0 0, .slice none 0 0, .slice none 0 0, .int .i64 0] 32 (0, 0))) := by rw [← hw1, ← hN]; exact new_at1 w _ _
  have HNW := Lib.hid (new_any n hn w1)
  have HMN := Lib.hid hn
  rw [hN]
  clear hn
  go_enter Try.func8, Try.ntmps8
  go_wp2_with fail
  refine HNW.out.mono ?_
  rintro e w2 ⟨A, c, vs, m, rfl, hs, hm, hb⟩
  have hz1 := row_lt RY1.out
  have RX2 := Lib.hid (old_below RX1.out hb (row_lt RX1.out))
  have RY2 := Lib.hid (old_below RY1.out hb (row_lt RY1.out))
  have HB2 := Lib.hid (HB1.out.trans (hb.mono (by have := HB1.out.size; omega)))
  have HS2 := Lib.hid hs
  have HM2 : Hid (w1.heap.size ≤ m ∧ N + 2 ≤ w1.heap.size ∧ m ≤ w2.heap.size) := ⟨hm, hz1, hs.le⟩
  have HZ2 : Hid (N + 2 ≤ w2.heap.size) := by have := row_lt RY2.out; show _ ≤ _; omega
  clear hs hm hb hw1 HNW RX1 RY1 HB1
  obtain ⟨H, hH⟩ : ∃ H, w2.heap.size = H := ⟨_, rfl⟩
  go_upto_region 2 with (refine wpList_store_new rfl 29 _ _ rfl w2 #[.slice none 0 0, .int .u16 0, .int .u16 0, .int .u16 0, .int .u16 0] #[.slice A n c, .int .u16 0, .int .u16 0, .int .u16 0, .int .u16 0] rfl rfl (by kernel_rfl) rfl (ring_ones _ _ _ _ _ _ _) ?_)
  have RP : Hid ((w2.alloc (.cells #[.slice A n c, .int .u16 0, .int .u16 0, .int .u16 0, .int .u16 0] 29)).heap[H]? = some (.cells #[.slice A n c, .int .u16 0, .int .u16 0, .int .u16 0, .int .u16 0] 29 (0, 0))) := by rw [← hH]; exact heap_alloc_new w2 _
  have RX3 := Lib.hid (old_alloc RX2.out (.cells #[.slice A n c, .int .u16 0, .int .u16 0, .int .u16 0, .int .u16 0] 29))
  have RY3 := Lib.hid (old_alloc RY2.out (.cells #[.slice A n c, .int .u16 0, .int .u16 0, .int .u16 0, .int .u16 0] 29))
  have HS3 := Lib.hid (hH ▸ HS2.out.stay HM2.out.1 (Stay.of ((Below.refl w2.heap.size w2).alloc (Nat.le_refl _) (.cells #[.slice A n c, .int .u16 0, .int .u16 0, .int .u16 0, .int .u16 0] 29)) (Nat.le_refl _)))
  have HB3 : Hid (Below N w (w2.alloc (.cells #[.slice A n c, .int .u16 0, .int .u16 0, .int .u16 0, .int .u16 0] 29))) := HB2.out.alloc (by have := HB2.out.size; omega) _
  have HHM : Hid (w1.heap.size ≤ m ∧ N + 2 ≤ w1.heap.size ∧ m ≤ H) := by have := HM2.out; show _ ∧ _; omega
  have HH3 : Hid (H < (w2.alloc (.cells #[.slice A n c, .int .u16 0, .int .u16 0, .int .u16 0, .int .u16 0] 29)).heap.size) := row_lt RP.out
  generalize w2.alloc (.cells #[.slice A n c, .int .u16 0, .int .u16 0, .int .u16 0, .int .u16 0] 29) = w3 at RP RX3 RY3 HS3 HB3 HH3 ⊢
  clear HS2 HM2 HB2 RX2 RY2 HZ2
  obtain ⟨a0, a1, a2, a3, a4⟩ := five_cells RP.out
  have f1 := frozen_of_row w3 H 1 _ _ RP.out
  have f2 := frozen_of_row w3 H 2 _ _ RP.out
  have f3 := frozen_of_row w3 H 3 _ _ RP.out
  have f4 := frozen_of_row w3 H 4 _ _ RP.out
  go_upto_region 3 with (fail)
  clear a0 a1 a2 a3 a4 f1 f2 f3 f4
  have hz := HHM.out
  have RP9 : Hid ((((((w3).setCell ⟨H, 1, none⟩ (.int .u16 (k : Int))).setCell ⟨H, 2, none⟩ (.int .u16 (k : Int))).setCell ⟨H, 3, none⟩ (.int .u16 (k : Int))).setCell ⟨H, 4, none⟩ (.int .u16 (k : Int))).heap[H]? = some (.cells #[.slice A n c, .int .u16 (k : Int), .int .u16 (k : Int), .int .u16 (k : Int), .int .u16 (k : Int)] 29 (0, 0))) := heap_setCell_same _ H 4 _ _ _ (heap_setCell_same _ H 3 _ _ _ (heap_setCell_same _ H 2 _ _ _ (heap_setCell_same w3 H 1 _ _ _ RP.out)))
  have hk9 : ∀ j, j ≠ H → (((((w3).setCell ⟨H, 1, none⟩ (.int .u16 (k : Int))).setCell ⟨H, 2, none⟩ (.int .u16 (k : Int))).setCell ⟨H, 3, none⟩ (.int .u16 (k : Int))).setCell ⟨H, 4, none⟩ (.int .u16 (k : Int))).heap[j]? = w3.heap[j]? := fun j hj => (heap_setCell_other _ _ _ _ hj).trans ((heap_setCell_other _ _ _ _ hj).trans ((heap_setCell_other _ _ _ _ hj).trans (heap_setCell_other _ _ _ _ hj)))
  have RX9 := Lib.hid ((hk9 N (by omega)).trans RX3.out)
  have RY9 := Lib.hid ((hk9 (N + 1) (by omega)).trans RY3.out)
  have HS9 := Lib.hid (HS3.out.stay hz.1 (w' := ((((w3).setCell ⟨H, 1, none⟩ (.int .u16 (k : Int))).setCell ⟨H, 2, none⟩ (.int .u16 (k : Int))).setCell ⟨H, 3, none⟩ (.int .u16 (k : Int))).setCell ⟨H, 4, none⟩ (.int .u16 (k : Int))) (fun j h1 h2 => hk9 j (by omega)))
  have HB9 : Hid (Below N w (((((w3).setCell ⟨H, 1, none⟩ (.int .u16 (k : Int))).setCell ⟨H, 2, none⟩ (.int .u16 (k : Int))).setCell ⟨H, 3, none⟩ (.int .u16 (k : Int))).setCell ⟨H, 4, none⟩ (.int .u16 (k : Int)))) := (((HB3.out.setCell (p := ⟨H, 1, none⟩) (by show N ≤ H; omega) _).setCell (p := ⟨H, 2, none⟩) (by show N ≤ H; omega) _).setCell (p := ⟨H, 3, none⟩) (by show N ≤ H; omega) _).setCell (p := ⟨H, 4, none⟩) (by show N ≤ H; omega) _
  have HZ9 : Hid (H < (((((w3).setCell ⟨H, 1, none⟩ (.int .u16 (k : Int))).setCell ⟨H, 2, none⟩ (.int .u16 (k : Int))).setCell ⟨H, 3, none⟩ (.int .u16 (k : Int))).setCell ⟨H, 4, none⟩ (.int .u16 (k : Int))).heap.size) := row_lt RP9.out
  generalize ((((w3).setCell ⟨H, 1, none⟩ (.int .u16 (k : Int))).setCell ⟨H, 2, none⟩ (.int .u16 (k : Int))).setCell ⟨H, 3, none⟩ (.int .u16 (k : Int))).setCell ⟨H, 4, none⟩ (.int .u16 (k : Int)) = w9 at RP9 RX9 RY9 HS9 HB9 HZ9 ⊢
  clear RP RX3 RY3 HS3 HB3 HH3 hk9
  have HX9 : Hid ((w9.setRow N #[.slice A n c, .int .u16 (k : Int), .int .u16 (k : Int), .int .u16 (k : Int), .int .u16 (k : Int)]).heap[N + 1]? = some (.cells #[.int .i64 0, .slice none 0 0, .slice none 0 0, .slice none 0 0, .int .i64 0] 32 (0, 0))) := (setRow_other _ _ _ _ (by omega)).trans RY9.out
  go_wp2_with (first | refine wpList_load_row rfl 29 _ rfl H rfl 29 #[.slice A n c, .int .u16 (k : Int), .int .u16 (k : Int), .int .u16 (k : Int), .int .u16 (k : Int)] (0, 0) _ RP9.out Try.underlying29 rfl (by kernel_rfl) ?_ | refine wpList_store_row rfl 29 _ _ rfl N #[.slice A n c, .int .u16 (k : Int), .int .u16 (k : Int), .int .u16 (k : Int), .int .u16 (k : Int)] rfl rfl 29 _ RX9.out (by kernel_rfl) rfl (ring_ones _ _ _ _ _ _ _) ?_ | refine wpList_store_row rfl 32 _ _ rfl (N + 1) #[.int .i64 (n : Int), .slice none 0 0, .slice none 0 0, .slice none 0 0, .int .i64 (k : Int)] rfl rfl 32 _ HX9.out (by kernel_rfl) rfl (rfC_ones _ _ _ _ _ _ _ _ _ _ _) ?_)
  have RE1 : Hid (((w9.setRow N #[.slice A n c, .int .u16 (k : Int), .int .u16 (k : Int), .int .u16 (k : Int), .int .u16 (k : Int)]).setRow (N + 1) #[.int .i64 (n : Int), .slice none 0 0, .slice none 0 0, .slice none 0 0, .int .i64 (k : Int)]).heap[N]? = some (.cells #[.slice A n c, .int .u16 (k : Int), .int .u16 (k : Int), .int .u16 (k : Int), .int .u16 (k : Int)] 29 (0, 0))) := (setRow_other _ _ _ _ (by omega)).trans (setRow_heap _ _ _ _ _ _ RX9.out)
  have RE2 : Hid (((w9.setRow N #[.slice A n c, .int .u16 (k : Int), .int .u16 (k : Int), .int .u16 (k : Int), .int .u16 (k : Int)]).setRow (N + 1) #[.int .i64 (n : Int), .slice none 0 0, .slice none 0 0, .slice none 0 0, .int .i64 (k : Int)]).heap[N + 1]? = some (.cells #[.int .i64 (n : Int), .slice none 0 0, .slice none 0 0, .slice none 0 0, .int .i64 (k : Int)] 32 (0, 0))) := setRow_heap _ _ _ _ _ _ HX9.out
  refine ret_cc (g := N) (g2 := N + 1) rfl rfl rfl RE1.out Try.underlying29 rfl (by kernel_rfl) RE2.out Try.underlying32 rfl (by kernel_rfl) rfl ?_
  obtain ⟨q1, q2, q3⟩ := new_c (n := n) hk
  refine ⟨_, _, H, rfl, ⟨_, A, c, vs, m, Lies.nil HMN.out, ?_, (HS9.out.stay hz.1 ((Stay.row w9 (by omega) _).trans (Stay.row _ (by omega) _))).wide (by omega) (Nat.le_refl _), by omega⟩, ?_, ⟨none, none, none, 0, 0, 0, ?_, SR.none, SR.none, SR.none⟩, below_setRow (below_setRow HB9.out (Nat.le_refl _) _) (by omega) _⟩
  · unfold rgC
    rw [q1, q2, q3]
    rfl
  · have := HZ9.out
    simp [World.setRow]
    omega
  · unfold rfC
    rw [q1]
    rfl

/-- a ring's value, cells that nobody names -/
theorem Rg.form {lo hi : Nat} {x : Rn} {w : World} {v : Value} (h : Rg lo hi x w v) : ∃ cs : Array Value, v = .agg cs ∧ cs.size = 5 ∧ cs.all (·.oneCell') = true := by
  obtain ⟨S, A, c, vs, m, -, rfl, -⟩ := h
  exact ⟨_, rfl, rfl, rgC_ones _ _ _⟩
theorem Rf.form {x : Rn} {w : World} {v : Value} (h : Rf x w v) : ∃ cs : Array Value, v = .agg cs ∧ cs.size = 5 ∧ cs.all (·.oneCell') = true := by
  obtain ⟨A1, A2, A3, c1, c2, c3, rfl, -⟩ := h
  exact ⟨_, rfl, rfl, rfC_ones _ _ _ _ _ _ _ _ _ _ _⟩
theorem sz_rg {cs : Array Value} (h : cs.size = 5) : (Try.prog.info? 29).map (·.size) = some cs.size := by
  rw [h]
  kernel_rfl
theorem sz_rf {cs : Array Value} (h : cs.size = 5) : (Try.prog.info? 32).map (·.size) = some cs.size := by
  rw [h]
  kernel_rfl
/-- the variable block N holds a ring whose rows lie from lo on and below hi, N outside of them -/
structure VarG (N lo hi : Nat) (x : Rn) (w : World) : Prop where
  ex : ∃ cs, w.heap[N]? = some (.cells cs 29 (0, 0)) ∧ Rg lo hi x w (.agg cs)
  out : N < lo ∨ hi ≤ N
  le : hi ≤ w.heap.size
theorem VarG.below {N lo hi B : Nat} {x : Rn} {w w' : World} (h : VarG N lo hi x w) (hb : Below B w w') (hB : w.heap.size ≤ B := by first | exact Nat.le_refl _ | simp) : VarG N lo hi x w' := by
  obtain ⟨⟨cs, h1, h2⟩, h3, h4⟩ := h
  exact ⟨⟨cs, old_below h1 hb (by have := row_lt h1; omega), h2.below hb (by omega)⟩, h3, Nat.le_trans h4 hb.size⟩
theorem VarG.lt {N lo hi : Nat} {x : Rn} {w : World} (h : VarG N lo hi x w) : N < w.heap.size := by
  obtain ⟨⟨cs, h1, -⟩, -⟩ := h
  exact row_lt h1
theorem varg_new {lo hi : Nat} {x : Rn} {w : World} {cs : Array Value} (h : Rg lo hi x w (.agg cs)) (hh : hi ≤ w.heap.size) : VarG w.heap.size lo hi x (w.alloc (.cells cs 29)) :=
  ⟨⟨cs, heap_alloc_new w _, h.below ((Below.refl _ _).alloc (Nat.le_refl _) _) hh⟩, .inr hh, by simp; omega⟩
theorem varg_set {N lo hi : Nat} {x : Rn} {w : World} {cs old : Array Value} (h : Rg lo hi x w (.agg cs)) (hh : hi ≤ w.heap.size) (hx : w.heap[N]? = some (.cells old 29 (0, 0))) (ho : N < lo ∨ hi ≤ N) : VarG N lo hi x (w.setRow N cs) :=
  ⟨⟨cs, setRow_heap _ _ _ _ _ _ hx, h.stay (Stay.row w ho _)⟩, ho, by simp [World.setRow]; omega⟩

def x2a : Rn := { n := 2, r := 0, D := [], T := [], P := [[97]] }
def x2b : Rn := { n := 2, r := 0, D := [], T := [], P := [[97], [98]] }
def x2c : Rn := { n := 2, r := 0, D := [], T := [[97]], P := [[98]] }
theorem two_ok : (newX 2 0).Ok ∧ x2a.Ok ∧ x2b.Ok ∧ x2c.Ok :=
  have h0 : (newX 2 0).Ok := ok_new (.inr (.inl rfl)) (by decide)
  have h1 : x2a.Ok := ok_post h0 [97]
  have h2 : x2b.Ok := ok_post h1 [98]
  ⟨h0, h1, h2, ok_take h2⟩
set_option maxRecDepth 100000 in
set_option maxHeartbeats 4000000 in
theorem lives_any (w : World) : Calls Try.prog 6 #[] w fun e w' => e = .returned (.bool true) ∧ Below w.heap.size w w' := by
  obtain ⟨o0, o1, o2, o3⟩ := two_ok
  have kc := fun (w : World) (C : Array Value) (n c : Nat) => Lib.run_convert_bytes_const (P := Try.prog) w 35 5 C n c Try.underlying35 Try.underlying5
  have HNW := Lib.hid (new_any 2 (.inr (.inl rfl)) w)
  go_enter Try.func6, Try.ntmps6
  go_wp2_with fail
  refine HNW.out.mono ?_
  rintro e w1 ⟨A, c, vs, m, rfl, hs, hm, hb⟩
  have hg0 : Rg w.heap.size w1.heap.size (newX 2 0) w1 (.agg #[.slice A 2 c, .int .u16 0, .int .u16 0, .int .u16 0, .int .u16 0]) := ⟨_, A, c, vs, m, Lies.nil (.inr (.inl rfl)), rfl, hs, hm⟩
  have HV := Lib.hid (varg_new hg0 (Nat.le_refl _))
  have HB : Hid (Below w.heap.size w (w1.alloc (.cells #[.slice A 2 c, .int .u16 0, .int .u16 0, .int .u16 0, .int .u16 0] 29))) := hb.alloc hb.size _
  obtain ⟨N, hN⟩ : ∃ N, w1.heap.size = N := ⟨_, rfl⟩
  have HNW : Hid (w.heap.size ≤ N) := by rw [← hN]; exact hb.size
  rw [hN] at HV
  clear hs hm hb hg0
  go_upto_region 2 with (refine wpList_store_new rfl 29 _ _ rfl w1 #[.slice none 0 0, .int .u16 0, .int .u16 0, .int .u16 0, .int .u16 0] #[.slice A 2 c, .int .u16 0, .int .u16 0, .int .u16 0, .int .u16 0] rfl rfl (by kernel_rfl) rfl (ring_ones _ _ _ _ _ _ _) ?_)
  generalize w1.alloc (.cells #[.slice A 2 c, .int .u16 0, .int .u16 0, .int .u16 0, .int .u16 0] 29) = w2 at HV HB ⊢
  clear hN
  obtain ⟨⟨cs, hcs, hg⟩, hout, hle⟩ := HV.out
  obtain ⟨cs', hcv, h5, h1⟩ := Rg.form hg
  injection hcv with hcv
  subst hcv
  have hba : Below w2.heap.size w2 (w2.alloc (.cells #[.int .u8 97] 5 (1, 2))) := (Below.refl _ _).alloc (Nat.le_refl _) _
  have HCS := Lib.hid hcs
  have HCS2 := Lib.hid (old_below hcs hba (row_lt hcs))
  have H5 := Lib.hid h5
  have HPS := Lib.hid (rg_post (hg.below hba hle) o0 (by simp; omega) (some ⟨w2.heap.size, 0, none⟩) 1 w2.heap.size (w2.heap.size + 1) [97] (rd_new w2 (cells [97]) 5 (1, 2)) (by simp) (fun h => by cases h) (by simp))
  have HBA := Lib.hid hba
  have HSO := H5
  clear hcs hg h1 h5 hle hba
  go_wp2_with (refine wpList_load_row rfl 29 _ rfl N rfl 29 cs (0, 0) _ HCS.out Try.underlying29 rfl (sz_rg H5.out) ?_)
  refine HPS.out.mono ?_
  rintro e w3 ⟨v, rfl, hg, hb⟩
  have hg2 : Rg (w2.alloc (.cells #[.int .u8 97] 5 (1, 2))).heap.size w3.heap.size x2a w3 v := hg
  obtain ⟨ds, rfl, h5, h1⟩ := Rg.form hg2
  have hx := old_below HCS2.out hb (row_lt HCS2.out)
  have HV2 := Lib.hid (varg_set hg2 (Nat.le_refl _) hx (.inl (row_lt HCS2.out)))
  have HX := Lib.hid hx
  have H5 := Lib.hid h5
  have H1 := Lib.hid h1
  have HBC : Hid (Below w.heap.size w (w3.setRow N ds)) := below_setRow (HB.out.trans ((HBA.out.trans (hb.mono HBA.out.size)).mono HB.out.size)) HNW.out _
  clear hg hg2 hb hx h5 h1 HPS
  go_upto_region 3 with (refine wpList_store_row rfl 29 _ _ rfl N ds rfl rfl 29 _ HX.out (sz_rg H5.out) (HSO.out.trans H5.out.symm) H1.out ?_)
  generalize w3.setRow N ds = w4 at HV2 HBC ⊢
  have HV := HV2
  have HB := HBC
  clear HV2 HBC HX H5 H1 HCS HCS2 HBA HSO hout
  obtain ⟨⟨cs, hcs, hg⟩, hout, hle⟩ := HV.out
  obtain ⟨cs', hcv, h5, h1⟩ := Rg.form hg
  injection hcv with hcv
  subst hcv
  have hba : Below w4.heap.size w4 (w4.alloc (.cells #[.int .u8 98] 5 (1, 2))) := (Below.refl _ _).alloc (Nat.le_refl _) _
  have HCS := Lib.hid hcs
  have HCS2 := Lib.hid (old_below hcs hba (row_lt hcs))
  have H5 := Lib.hid h5
  have HPS := Lib.hid (rg_post (hg.below hba hle) o1 (by simp; omega) (some ⟨w4.heap.size, 0, none⟩) 1 w4.heap.size (w4.heap.size + 1) [98] (rd_new w4 (cells [98]) 5 (1, 2)) (by simp) (fun h => by cases h) (by simp))
  have HBA := Lib.hid hba
  have HSO := H5
  clear hcs hg h1 h5 hle hba
  go_wp2_with (refine wpList_load_row rfl 29 _ rfl N rfl 29 cs (0, 0) _ HCS.out Try.underlying29 rfl (sz_rg H5.out) ?_)
  refine HPS.out.mono ?_
  rintro e w5 ⟨v, rfl, hg, hb⟩
  have hg2 : Rg (w4.alloc (.cells #[.int .u8 98] 5 (1, 2))).heap.size w5.heap.size x2b w5 v := hg
  obtain ⟨ds, rfl, h5, h1⟩ := Rg.form hg2
  have hx := old_below HCS2.out hb (row_lt HCS2.out)
  have HV2 := Lib.hid (varg_set hg2 (Nat.le_refl _) hx (.inl (row_lt HCS2.out)))
  have HX := Lib.hid hx
  have H5 := Lib.hid h5
  have H1 := Lib.hid h1
  have HBC : Hid (Below w.heap.size w (w5.setRow N ds)) := below_setRow (HB.out.trans ((HBA.out.trans (hb.mono HBA.out.size)).mono HB.out.size)) HNW.out _
  clear hg hg2 hb hx h5 h1 HPS
  go_upto_region 4 with (refine wpList_store_row rfl 29 _ _ rfl N ds rfl rfl 29 _ HX.out (sz_rg H5.out) (HSO.out.trans H5.out.symm) H1.out ?_)
  generalize w5.setRow N ds = w6 at HV2 HBC ⊢
  have HV := HV2
  have HB := HBC
  clear HV2 HBC HX H5 H1 HCS HCS2 HBA HSO hout
  obtain ⟨⟨cs, hcs, hg⟩, hout, hle⟩ := HV.out
  obtain ⟨cs', hcv, h5, h1⟩ := Rg.form hg
  injection hcv with hcv
  subst hcv
  have HCS := Lib.hid hcs
  have H5 := Lib.hid h5
  have HPS := Lib.hid (rg_post hg o2 hle none 0 0 0 [] Rd.nil (Nat.zero_le _) (fun _ => rfl) (by simp))
  clear hcs hg h1 h5 hle
  go_wp2_with (refine wpList_load_row rfl 29 _ rfl N rfl 29 cs (0, 0) _ HCS.out Try.underlying29 rfl (sz_rg H5.out) ?_)
  refine HPS.out.mono ?_
  rintro e w7 ⟨v, rfl, hg, hb⟩
  obtain ⟨ds, rfl, h5, h1⟩ := Rg.form hg
  have HV2 := Lib.hid ((HV.out.below hb).below ((Below.refl w7.heap.size w7).alloc (Nat.le_refl _) (.cells ds 29)))
  have HBC : Hid (Below w.heap.size w (w7.alloc (.cells ds 29))) := (HB.out.trans (hb.mono HB.out.size)).alloc (by have := HB.out.size; have := hb.size; omega) _
  have H5 := Lib.hid h5
  have H1 := Lib.hid h1
  have hzs : (#[.slice none 0 0, .int .u16 0, .int .u16 0, .int .u16 0, .int .u16 0] : Array Value).size = ds.size := h5.symm
  clear hg hb h5 h1 HPS
  go_upto_region 5 with (refine wpList_store_new rfl 29 _ _ rfl w7 #[.slice none 0 0, .int .u16 0, .int .u16 0, .int .u16 0, .int .u16 0] ds rfl rfl (sz_rg H5.out) hzs H1.out ?_)
  generalize w7.alloc (.cells ds 29) = w8 at HV2 HBC ⊢
  have HV := HV2
  have HB := HBC
  clear HV2 HBC H5 H1 HCS hzs hout
  obtain ⟨⟨cs, hcs, hg⟩, hout, hle⟩ := HV.out
  obtain ⟨cs', hcv, h5, h1⟩ := Rg.form hg
  injection hcv with hcv
  subst hcv
  have HCS := Lib.hid hcs
  have H5 := Lib.hid h5
  have HSO := H5
  have HPS := Lib.hid (rg_take hg o2 hle)
  clear hcs hg h1 h5 hle
  go_wp2_with (refine wpList_load_row rfl 29 _ rfl N rfl 29 cs (0, 0) _ HCS.out Try.underlying29 rfl (sz_rg H5.out) ?_)
  refine HPS.out.mono ?_
  rintro e w9 ⟨v, u, H, rfl, hg, hH, hu, hb⟩
  have hg2 : Rg w8.heap.size H x2c w9 v := hg
  have hu2 : w9.ownsRow H 5 1 u 1 (cells [97]) := hu
  obtain ⟨ds, rfl, h5, h1⟩ := Rg.form hg2
  have hx := old_below HCS.out hb (row_lt HCS.out)
  have HV2 := Lib.hid (varg_set hg2 hH hx (.inl (row_lt HCS.out)))
  have HX := Lib.hid hx
  have H5 := Lib.hid h5
  have H1 := Lib.hid h1
  have HU := Lib.hid (ownk_other hu2 hx (by decide) (setRow_cells w9 N ds))
  obtain ⟨Au, cu, rfl, -⟩ := ownk_form hu2
  have HBC : Hid (Below w.heap.size w (w9.setRow N ds)) := below_setRow (HB.out.trans (hb.mono HB.out.size)) HNW.out _
  clear hg hg2 hb hx h5 h1 hu hu2 hH HPS
  go_upto_region 6 with (refine wpList_store_row rfl 29 _ _ rfl N ds rfl rfl 29 _ HX.out (sz_rg H5.out) (HSO.out.trans H5.out.symm) H1.out ?_)
  generalize w9.setRow N ds = wa at HV2 HBC HU ⊢
  have hcv : (convert 35 9 (.slice Au 1 cu)).run Try.prog wa = .ok (.string ⟨#[97]⟩) wa := run_text (P := Try.prog) wa 35 9 5 (l := [97]) cu Try.underlying35 Try.underlying5 Try.underlying9 (ownk_rd HU.out)
  clear HX H5 H1 HCS HSO hout HB HV
  obtain ⟨⟨cs, hcs, hg⟩, -, -⟩ := HV2.out
  have HLN := Lib.hid (rg_len hg o3 wa)
  obtain ⟨S7, A7, c7, vs7, m7, -, hcv2, -⟩ := hg
  injection hcv2 with hcv2
  subst hcv2
  unfold rgC at hcs HLN
  obtain ⟨a0, a1, a2, a3, a4⟩ := five_cells hcs
  clear hcs
  go_wp2_with fail
  clear a0 a1 a2 a3 a4
  refine HLN.out.mono ?_
  rintro e wb ⟨rfl, hb⟩
  have HE := Lib.hid (HBC.out.trans (hb.mono HBC.out.size))
  have hl2 : ((x2c.len : Nat) : Int) = 2 := rfl
  clear hb
  go_wp2
  go_ret
  exact ⟨rfl, HE.out⟩
end Go.Proofs.Ytdbiledmokldjaa
