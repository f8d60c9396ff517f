/-
  caravelref07.Split, the document's answer: the same packets, their data as it came. Every packet that can be read.
-/
import Derived.Test.YtkgfphkhnhdemaaSplitAny
namespace Go.Proofs.Ytkgfphkhnhdemaa
open Go.RowKit

/-- a packet's cells while its place, its More and its data are laid -/
def mixL (p : Pk) (o : Nat) (mr : Bool) (v0 v : Value) (a b c : Bool) : Array Value :=
  (pkC { p with off := if a then (o : Int) else 0, more := if b then mr else false } (if c then v else v0)).toArray
section
variable (p : Pk) (o : Nat) (mr : Bool) (v0 v : Value) (a b c : Bool)
theorem mixC_2 : (mixL p o mr v0 v a b c)[2]? = some (.int .i64 (if a then (o : Int) else 0)) := rfl
theorem mixC_1 : (mixL p o mr v0 v a b c)[1]? = some (.bool (if b then mr else false)) := rfl
theorem mixC_13 (h : p.ok) : (mixL p o mr v0 v a b c)[13]? = some (if c then v else v0) := by
  unfold mixL
  rw [List.getElem?_toArray]
  exact pkC_13 (p := { p with off := _, more := _ }) h _
theorem mixS_2 : (mixL p o mr v0 v a b c).setIfInBounds 2 (.int .i64 (o : Int)) = mixL p o mr v0 v true b c := by
  unfold mixL
  rw [List.setIfInBounds_toArray]
  rfl
theorem mixS_1 : (mixL p o mr v0 v a b c).setIfInBounds 1 (.bool mr) = mixL p o mr v0 v a true c := by
  unfold mixL
  rw [List.setIfInBounds_toArray]
  rfl
theorem mixS_13 (h : p.ok) : (mixL p o mr v0 v a b c).setIfInBounds 13 v = mixL p o mr v0 v a b true := by
  obtain ⟨_, h1, h2⟩ := h
  obtain ⟨s0, s1, s2, s3, e1⟩ := four_of p.src h1
  obtain ⟨d0, d1, d2, d3, e2⟩ := four_of p.dst h2
  unfold mixL
  rw [List.setIfInBounds_toArray]
  simp only [pkC, e1, e2]
  rfl
end
theorem piece_fields (p : Pk) (k : Nat) (v : Value) : pkC (pieceP p k) v = pkC { p with off := ((176 * k : Nat) : Int), more := decide (176 * (k + 1) < p.data.length) } v := rfl

set_option maxRecDepth 100000 in
set_option maxHeartbeats 4000000 in
theorem refsplit_ok (cs : Array Value) (p : Pk) (A : Option Addr) (n c lo hi : Nat) (w : World) (he : cs = (pkC p (.slice A n c)).toArray) (hok : p.ok) (h0 : p.off = 0) (hmf : p.more = false) (hr : Rd w lo hi A (cells p.data)) (hn : p.data.length = n) (hc : n ≤ c) (hcm : c ≤ maxLen) (hA : A = none → c = 0) (hhi : hi ≤ w.heap.size) (hl : n ≤ 1000) :
    Calls Try.prog 9 #[.agg cs] w
      fun e w' => ∃ v xs, e = .returned (.tuple #[v, .int .i64 0]) ∧ w'.ownsRow w.heap.size 27 14 v (piecesN n) xs ∧ RowOf 14 (fun cs q => PkV w lo hi cs.toArray q) xs (splitL p (piecesN n)) ∧ Below w.heap.size w w' := by
  obtain ⟨C0, hC0⟩ : ∃ C0, cs = C0 := ⟨_, rfl⟩
  rw [hC0] at he ⊢
  have h1 : C0[1]? = some (.bool false) := by rw [he, ← hmf]; rfl
  have h2 : C0[2]? = some (.int .i64 0) := by rw [he, ← h0]; rfl
  have h13 : C0[13]? = some (.slice A n c) := by rw [he, List.getElem?_toArray]; exact pkC_13 hok _
  have HS0 : Hid (C0.size = 14 ∧ C0.all (·.oneCell') = true) := ⟨by rw [he]; exact pkC_size hok _, by rw [he]; exact all_one (pkC_one _ _ rfl)⟩
  have H13 := Lib.hid h13
  have HE := Lib.hid he
  have HOK := Lib.hid hok
  have H0 := Lib.hid h0
  have HMF := Lib.hid hmf
  have HR := Lib.hid hr
  have HN := Lib.hid hn
  have HHI := Lib.hid hhi
  have HA := Lib.hid hA
  have HC0 := Lib.hid hc
  clear hC0 he hok h0 hmf hr hn hhi hA hc
  unfold maxLen at hcm
  go_enter Try.func9, Try.ntmps9
  go_wp2
  clear h1 h2 h13
  go_loopw [4, 5] (fun t4 t5 wr => ∃ (k o : Nat) (xs : List Value), t5 = .int .i64 (o : Int) ∧ o ≤ 2000 ∧ Hid (o = 176 * k) ∧ Hid (k ≤ piecesN n) ∧ Hid (wr.ownsRow (w.heap.size + 1) 27 14 t4 k xs) ∧ Hid (RowOf 14 (fun cs q => PkV w lo hi cs.toArray q) xs (splitL p k)) ∧ Hid (Below w.heap.size w wr) ∧
      Hid (wr.heap[w.heap.size]? = some (.cells C0 27 (0, 0)))) (fun _ t5 _ => 2000 - (intOf t5).toNat)
  case atStart => exact ⟨0, 0, [], rfl, by omega, Lib.hid rfl, Lib.hid (Nat.zero_le _), Lib.hid (World.ownsRow_nil _ _ _ _), Lib.hid RowOf.nil, Lib.hid ((Below.refl _ _).alloc (Nat.le_refl _) _), Lib.hid (heap_alloc_new w _)⟩
  case round =>
    obtain ⟨k, o, xs, rfl, ho, HO, HKN, HOWN, HROW, HBEL, HBX⟩ := hrel
    have k13 : wr.cell? ⟨w.heap.size, 13, none⟩ = some (.slice A n c) := by rw [cell_of_row _ _ _ _ _ _ HBX.out]; exact H13.out
    generalize u4 = v4 at HOWN ⊢
    have hgo : (((o : Int) == 0) = true ∧ o = 0) ∨ (((o : Int) == 0) = false ∧ o < n) ∨ (((o : Int) == 0) = false ∧ ¬ o < n ∧ o ≠ 0) := by
      by_cases h : o = 0
      · exact .inl ⟨beqT (by omega), h⟩
      · by_cases h2 : o < n
        · exact .inr (.inl ⟨beqF (by omega), h2⟩)
        · exact .inr (.inr ⟨beqF (by omega), h2, h⟩)
    have hstop : (((o : Int) == 0) = false ∧ ¬ o < n ∧ o ≠ 0) → k = piecesN n := by
      rintro ⟨_, h1, h2⟩
      have h3 := HO.out
      have h4 := HKN.out
      unfold piecesN at h4 ⊢
      split at h4 <;> (try rw [if_pos (by omega)]) <;> (try rw [if_neg (by omega)]) <;> omega
    rcases hgo with ⟨ht, hgo⟩ | ⟨ht, hgo⟩ | ⟨ht, hgo, hgo2⟩
    case inr.inr =>
      have hk := hstop ⟨ht, hgo, hgo2⟩
      subst hk
      clear hstop
      go_wp2
      go_ret2
      exact ⟨v4, xs, rfl, ownk_base HOWN.out (Nat.le_succ _), HROW.out, HBEL.out⟩
    all_goals
      clear hstop
      have hon : o ≤ n := by omega
      obtain ⟨mr, hmr⟩ : ∃ mr, decide ((o : Int) + 176 < (n : Int)) = mr := ⟨_, rfl⟩
      have HMR := Lib.hid hmr
      obtain ⟨mn, hmn⟩ : ∃ mn, min (o + 176) n = mn := ⟨_, rfl⟩
      have HMN : Hid (min ((o : Int) + 176) (n : Int) = (mn : Int)) := by show _ = _; omega
      have hmn2 : o ≤ mn := by omega
      have hmn3 : mn ≤ n := by omega
      obtain ⟨A2, hA2⟩ : ∃ A2, (if c = o then A else A.map (·.add (o * 1))) = A2 := ⟨_, rfl⟩
      obtain ⟨m2, hm2⟩ : ∃ m2, mn - o = m2 := ⟨_, rfl⟩
      obtain ⟨c2, hc2⟩ : ∃ c2, c - o = c2 := ⟨_, rfl⟩
      have HSL : Hid (∀ w : World, (Instr.slice 25 (.slice A n c) (some (.int .i64 (o : Int))) (some (.int .i64 (mn : Int))) none).run Try.prog w = .ok (.slice A2 m2 c2) w) := fun w => by
        have := run_slice_lh (P := Try.prog) 25 5 1 Try.underlying25 (by kernel_rfl) A n c o mn hmn2 (by have := HC0.out; omega) w
        rw [hA2, hm2, hc2] at this
        exact this
      have HD2 : Hid (Rd w lo hi A2 (cells ((p.data.drop o).take 176))) := by
        show Rd _ _ _ _ _
        rw [← hA2, ← cells_take, ← cells_drop]
        have := HR.out.part (size := 1) c o 176 (fun h => by
          rw [Nat.mul_one]
          refine List.drop_eq_nil_of_le ?_
          rw [cells_length, HN.out]
          have := HC0.out
          omega)
        simpa using this
      have HM2 : Hid (((p.data.drop o).take 176).length = m2 ∧ m2 ≤ c2 ∧ c2 ≤ maxLen ∧ (A2 = none → c2 = 0)) := by
        have h0 := HC0.out
        refine ⟨by rw [List.length_take, List.length_drop, HN.out]; omega, by omega, by unfold maxLen; omega, fun h => ?_⟩
        rw [← hA2] at h
        split at h
        · have := HA.out h; omega
        · have hh : A = none := by cases A <;> simp_all
          have := HA.out hh
          omega
      obtain ⟨q, hq⟩ : ∃ q, pieceP p k = q := ⟨_, rfl⟩
      have HQ : Hid (PkV w lo hi (pkC { p with off := (o : Int), more := mr } (.slice A2 m2 c2)).toArray q) := by
        show PkV _ _ _ _ _
        have hh := HM2.out
        have ho2 := HO.out
        have e1 : q.data = (p.data.drop o).take 176 := by rw [← hq, ho2]; rfl
        refine ⟨A2, c2, ?_, ?_, ?_, ?_, ?_, hh.2.2.1, hh.2.2.2⟩
        · rw [e1, hh.1, ← hq, piece_fields, ← ho2, HN.out]
          have : decide (176 * (k + 1) < n) = mr := by rw [← hmr]; congr 1; rw [ho2]; apply propext; omega
          rw [this]
        · rw [← hq]; exact HOK.out
        · rw [← hq]; simp only [pieceP]; omega
        · rw [e1]; exact HD2.out
        · rw [e1, hh.1]; exact hh.2.1
      have HQ1 := Lib.hid hq
      have hw176 : IntKind.i64.wrap ((o : Int) + 176) = (o : Int) + 176 := IntWalk.i64_in _ ⟨by omega, by omega⟩
      have HKS : Hid (k + 1 ≤ piecesN n) := by
        have h3 := HO.out
        show _ ≤ _
        unfold piecesN
        split <;> omega
      have hk6 : k ≤ 20 := by have := HO.out; omega
      clear hmr hmn hA2 hm2 hc2 hq
      first | (have hz0 : o = 0 := hgo; clear hgo hz0) | skip
      go_wp2_with (first | refine wpList_load_row rfl 27 _ rfl w.heap.size rfl 27 C0 (0, 0) _ HBX.out Try.underlying27 rfl (size_pk HS0.out.1) ?_ | refine wpList_store_new rfl 27 _ _ rfl wr #[.int .u16 0, .bool false, .int .i64 0, .int .u8 0, .int .u8 0, .int .u8 0, .int .u8 0, .int .u8 0, .int .u8 0, .int .u8 0, .int .u8 0, .int .u8 0, .int .u8 0, .slice none 0 0] C0 rfl rfl (size_pk HS0.out.1) HS0.out.1.symm HS0.out.2 ?_)
      obtain ⟨g, hg⟩ : ∃ g, wr.heap.size = g := ⟨_, rfl⟩
      have HG := Lib.hid hg
      have HOG : Hid (∀ b, v4.ownBlock = some b → b ≠ g) := fun b hb => by have := HOWN.out.lt b hb; omega
      have HBG : Hid (w.heap.size < g) := by have := row_lt HBX.out; show _ < _; omega
      have HGB : Hid (w.heap.size ≤ g) := by have := HBG.out; show _ ≤ _; omega
      have hmx : (wr.alloc (.cells C0 27)).heap[g]? = some (.cells (mixL p o mr (.slice A n c) (.slice A2 m2 c2) false false false) 27 (0, 0)) := by
        rw [← hg, heap_alloc_new]
        congr 2
        rw [HE.out]
        unfold mixL
        have := H0.out
        have := HMF.out
        obtain ⟨a1, a2, a3, a4, a5, a6, a7, a8⟩ := p
        simp only at *
        subst a2 a3
        rfl
      have HMX := Lib.hid hmx
      have HBX2 := Lib.hid (old_alloc HBX.out (.cells C0 27))
      have HBEL2 := Lib.hid (HBEL.out.alloc HBEL.out.size (.cells C0 27))
      have HOWN2 := Lib.hid (HOWN.out.alloc (.cells C0 27))
      have HGL : Hid (g < (wr.alloc (.cells C0 27)).heap.size) := row_lt hmx
      rw [hg]
      generalize wr.alloc (.cells C0 27) = wq at HMX HBX2 HBEL2 HOWN2 HGL ⊢
      clear hg hmx k13 HBX HBEL HOWN
      apply wp_region_relyG [18, 20, 22] (fun L w' => Below w.heap.size w w' ∧ w'.heap[w.heap.size]? = some (.cells C0 27 (0, 0)) ∧ w'.heap[g]? = some (.cells (mixL p o mr (.slice A n c) (.slice A2 m2 c2) (L 18) (L 20) (L 22)) 27 (0, 0)) ∧ w'.ownsRow (w.heap.size + 1) 27 14 v4 k xs ∧ g < w'.heap.size) (RL [Is _, Is _, Is _, Is _, Is _, Is _, Is _, Is _, Is _, Is _, Is _, Is _, Is _, Is _, Is _, Is (.int .i64 (mn : Int)), Is (.slice A2 m2 c2), Is _, Any, Is (.pointer (some ⟨g, 1, none⟩)), Any, Is (.pointer (some ⟨g, 13, none⟩)), Any]) [false, false, false, false, false, false, false, false, false, false, false, false, false, false, false, false, false, false, false, false, false, false, false, false, false, false, false, false, false, false, true, true, true, true, true, true, true, true, true, true, true, true, true, true, true, true, true, true, true, true, false, false, false, false, false]
      · kernel_rfl
      · kernel_rfl
      · kernel_rfl
      · refine ⟨?_, ?_, ?_, ?_, ?_, ?_, ?_, ?_, ?_, ?_, ?_, ?_, ?_, ?_, ?_, ?_, ?_, ?_, ?_, ?_, ?_, ?_, ?_, trivial⟩
        · intro L ev w' hC hL hx K hK
          have e5 : ev (.tmp 5) = _ := hx.base 5 (by kernel_rfl)
          have HK := Lib.hid hK
          have HC := Lib.hid hC
          have HL := Lib.hid hL
          have HX := Lib.hid hx
          have hc := hx.cst
          skip
          clear hx hK hC hL
          unfold Run
          simp [execOp, Upon, go_sem, *]
          exact HK.out _ _ (.inl ⟨Below.refl _ _, by decide⟩) rfl
        · intro L ev w' hC hL hx K hK
          have e5 : ev (.tmp 5) = _ := hx.base 5 (by kernel_rfl)
          have HK := Lib.hid hK
          have HC := Lib.hid hC
          have HL := Lib.hid hL
          have HX := Lib.hid hx
          have hc := hx.cst
          skip
          clear hx hK hC hL
          unfold Run
          simp [execOp, Upon, go_sem, *]
          exact HK.out _ _ (.inl ⟨Below.refl _ _, by decide⟩) rfl
        · intro L ev w' hC hL hx K hK
          have e31 := hx.held 1 _ rfl (by kernel_rfl)
          change ev (.tmp 31) = _ at e31
          have HK := Lib.hid hK
          have HC := Lib.hid hC
          have HL := Lib.hid hL
          have HX := Lib.hid hx
          have hc := hx.cst
          skip
          clear hx hK hC hL
          unfold Run
          simp [execOp, Upon, go_sem, *]
          exact HK.out _ _ (.inl ⟨Below.refl _ _, by decide⟩) rfl
        · intro L ev w' hC hL hx K hK
          have e1 : ev (.tmp 1) = _ := hx.base 1 (by kernel_rfl)
          have HK := Lib.hid hK
          have HC := Lib.hid hC
          have HL := Lib.hid hL
          have HX := Lib.hid hx
          have hc := hx.cst
          skip
          clear hx hK hC hL
          unfold Run
          simp [execOp, Upon, go_sem, *]
          exact HK.out _ _ (.inl ⟨Below.refl _ _, by decide⟩) rfl
        · intro L ev w' hC hL hx K hK
          have e33 := hx.held 3 _ rfl (by kernel_rfl)
          change ev (.tmp 33) = _ at e33
          have HK := Lib.hid hK
          have HC := Lib.hid hC
          have HL := Lib.hid hL
          have HX := Lib.hid hx
          have hc := hx.cst
          skip
          clear hx hK hC hL
          have c13 := cell_of_row _ _ 13 _ _ _ HC.out.2.1
          rw [H13.out] at c13
          unfold Run
          simp [execOp, Upon, go_sem, *]
          exact HK.out _ _ (.inl ⟨Below.refl _ _, by decide⟩) rfl
        · intro L ev w' hC hL hx K hK
          have e34 := hx.held 4 _ rfl (by kernel_rfl)
          change ev (.tmp 34) = _ at e34
          have HK := Lib.hid hK
          have HC := Lib.hid hC
          have HL := Lib.hid hL
          have HX := Lib.hid hx
          have hc := hx.cst
          skip
          clear hx hK hC hL
          unfold Run
          rw [run_lenE _ 25 5 Try.underlying25 rfl e34]
          exact HK.out _ _ (.inl ⟨Below.refl _ _, by decide⟩) rfl
        · intro L ev w' hC hL hx K hK
          have e32 := hx.held 2 _ rfl (by kernel_rfl)
          have e35 := hx.held 5 _ rfl (by kernel_rfl)
          change ev (.tmp 32) = _ at e32
          change ev (.tmp 35) = _ at e35
          have HK := Lib.hid hK
          have HC := Lib.hid hC
          have HL := Lib.hid hL
          have HX := Lib.hid hx
          have hc := hx.cst
          skip
          clear hx hK hC hL
          have hmr := HMR.out
          unfold Run
          simp [execOp, Upon, go_sem, *]
          exact HK.out _ _ (.inl ⟨Below.refl _ _, by decide⟩) rfl
        · intro L ev w' hC hL hx K hK
          have e1 : ev (.tmp 1) = _ := hx.base 1 (by kernel_rfl)
          have HK := Lib.hid hK
          have HC := Lib.hid hC
          have HL := Lib.hid hL
          have HX := Lib.hid hx
          have hc := hx.cst
          skip
          clear hx hK hC hL
          unfold Run
          simp [execOp, Upon, go_sem, *]
          exact HK.out _ _ (.inl ⟨Below.refl _ _, by decide⟩) rfl
        · intro L ev w' hC hL hx K hK
          have e37 := hx.held 7 _ rfl (by kernel_rfl)
          change ev (.tmp 37) = _ at e37
          have HK := Lib.hid hK
          have HC := Lib.hid hC
          have HL := Lib.hid hL
          have HX := Lib.hid hx
          have hc := hx.cst
          skip
          clear hx hK hC hL
          have c13 := cell_of_row _ _ 13 _ _ _ HC.out.2.1
          rw [H13.out] at c13
          unfold Run
          simp [execOp, Upon, go_sem, *]
          exact HK.out _ _ (.inl ⟨Below.refl _ _, by decide⟩) rfl
        · intro L ev w' hC hL hx K hK
          have e5 : ev (.tmp 5) = _ := hx.base 5 (by kernel_rfl)
          have HK := Lib.hid hK
          have HC := Lib.hid hC
          have HL := Lib.hid hL
          have HX := Lib.hid hx
          have hc := hx.cst
          skip
          clear hx hK hC hL
          unfold Run
          simp [execOp, Upon, go_sem, *]
          exact HK.out _ _ (.inl ⟨Below.refl _ _, by decide⟩) rfl
        · intro L ev w' hC hL hx K hK
          have e5 : ev (.tmp 5) = _ := hx.base 5 (by kernel_rfl)
          have HK := Lib.hid hK
          have HC := Lib.hid hC
          have HL := Lib.hid hL
          have HX := Lib.hid hx
          have hc := hx.cst
          skip
          clear hx hK hC hL
          unfold Run
          simp [execOp, Upon, go_sem, *]
          exact HK.out _ _ (.inl ⟨Below.refl _ _, by decide⟩) rfl
        · intro L ev w' hC hL hx K hK
          have e40 := hx.held 10 _ rfl (by kernel_rfl)
          change ev (.tmp 40) = _ at e40
          have HK := Lib.hid hK
          have HC := Lib.hid hC
          have HL := Lib.hid hL
          have HX := Lib.hid hx
          have hc := hx.cst
          skip
          clear hx hK hC hL
          unfold Run
          simp [execOp, Upon, go_sem, *]
          exact HK.out _ _ (.inl ⟨Below.refl _ _, by decide⟩) rfl
        · intro L ev w' hC hL hx K hK
          have e1 : ev (.tmp 1) = _ := hx.base 1 (by kernel_rfl)
          have HK := Lib.hid hK
          have HC := Lib.hid hC
          have HL := Lib.hid hL
          have HX := Lib.hid hx
          have hc := hx.cst
          skip
          clear hx hK hC hL
          unfold Run
          simp [execOp, Upon, go_sem, *]
          exact HK.out _ _ (.inl ⟨Below.refl _ _, by decide⟩) rfl
        · intro L ev w' hC hL hx K hK
          have e42 := hx.held 12 _ rfl (by kernel_rfl)
          change ev (.tmp 42) = _ at e42
          have HK := Lib.hid hK
          have HC := Lib.hid hC
          have HL := Lib.hid hL
          have HX := Lib.hid hx
          have hc := hx.cst
          skip
          clear hx hK hC hL
          have c13 := cell_of_row _ _ 13 _ _ _ HC.out.2.1
          rw [H13.out] at c13
          unfold Run
          simp [execOp, Upon, go_sem, *]
          exact HK.out _ _ (.inl ⟨Below.refl _ _, by decide⟩) rfl
        · intro L ev w' hC hL hx K hK
          have e43 := hx.held 13 _ rfl (by kernel_rfl)
          change ev (.tmp 43) = _ at e43
          have HK := Lib.hid hK
          have HC := Lib.hid hC
          have HL := Lib.hid hL
          have HX := Lib.hid hx
          have hc := hx.cst
          skip
          clear hx hK hC hL
          unfold Run
          rw [run_lenE _ 25 5 Try.underlying25 rfl e43]
          exact HK.out _ _ (.inl ⟨Below.refl _ _, by decide⟩) rfl
        · intro L ev w' hC hL hx K hK
          have e41 := hx.held 11 _ rfl (by kernel_rfl)
          have e44 := hx.held 14 _ rfl (by kernel_rfl)
          change ev (.tmp 41) = _ at e41
          change ev (.tmp 44) = _ at e44
          have HK := Lib.hid hK
          have HC := Lib.hid hC
          have HL := Lib.hid hL
          have HX := Lib.hid hx
          have hc := hx.cst
          skip
          clear hx hK hC hL
          have hmn := HMN.out
          unfold Run
          rw [run_minE _ _ _ rfl e41 e44, hmn]
          exact HK.out _ _ (.inl ⟨Below.refl _ _, by decide⟩) rfl
        · intro L ev w' hC hL hx K hK
          have e38 := hx.held 8 _ rfl (by kernel_rfl)
          have e39 := hx.held 9 _ rfl (by kernel_rfl)
          have e45 := hx.held 15 _ rfl (by kernel_rfl)
          change ev (.tmp 38) = _ at e38
          change ev (.tmp 39) = _ at e39
          change ev (.tmp 45) = _ at e45
          have HK := Lib.hid hK
          have HC := Lib.hid hC
          have HL := Lib.hid hL
          have HX := Lib.hid hx
          have hc := hx.cst
          skip
          clear hx hK hC hL
          have hrun : (Instr.slice 25 (.slice A n c) (some (ev (.tmp 39))) (some (ev (.tmp 45))) none).run Try.prog w' = .ok (.slice A2 m2 c2) w' := by rw [e39, e45]; exact HSL.out w'
          unfold Run
          rw [run_sliceE 25 _ (some _) (some _) rfl Try.underlying25 e38 hrun]
          exact HK.out _ _ (.inl ⟨Below.refl _ _, by decide⟩) rfl
        · intro L ev w' hC hL hx K hK
          have e6 : ev (.tmp 6) = _ := hx.base 6 (by kernel_rfl)
          have HK := Lib.hid hK
          have HC := Lib.hid hC
          have HL := Lib.hid hL
          have HX := Lib.hid hx
          have hc := hx.cst
          skip
          clear hx hK hC hL
          unfold Run
          simp [execOp, Upon, go_sem, *]
          exact HK.out _ _ (.inl ⟨Below.refl _ _, by decide⟩) rfl
        · intro L ev w' hC hL hx K hK
          have e30 := hx.held 0 _ rfl (by kernel_rfl)
          have e47 := hx.held 17 _ rfl (by kernel_rfl)
          change ev (.tmp 30) = _ at e30
          change ev (.tmp 47) = _ at e47
          have HK := Lib.hid hK
          have HC := Lib.hid hC
          have HL := Lib.hid hL
          have HX := Lib.hid hx
          have hc := hx.cst
          skip
          clear hx hK hC hL
          obtain ⟨hC1, hC2, hC3, hC4, hC5⟩ := HC.out
          have hcl := cell_of_row _ _ 2 _ _ _ hC3
          have hfz := frozen_of_row _ _ 2 _ _ hC3
          rw [mixC_2] at hcl
          have HST := Lib.hid (heap_setCell_same w' g 2 _ _ (.int .i64 (o : Int)) hC3)
          have HOT := Lib.hid (fun (j : Nat) (hj : j ≠ g) => heap_setCell_other w' ⟨g, 2, none⟩ j (.int .i64 (o : Int)) hj)
          
          have HC1 := Lib.hid hC1
          have HC2 := Lib.hid hC2
          have HC4 := Lib.hid hC4
          have HC5 := Lib.hid hC5
          clear hC1 hC2 hC3 hC4 hC5
          have hrun := run_store_cell (P := Try.prog) w' g 2 3 (.int .i64 (o : Int)) _ (by kernel_rfl) rfl rfl hcl hfz
          unfold Run
          rw [run_storeE 3 _ _ rfl e47 e30 hrun]
          refine HK.out _ _ (.inr ⟨⟨HC1.out.setCell HGB.out _, ?_, ?_, ?_, by simp; exact HC5.out⟩, fun j hj hlj u hr => rl_sg (S := fun _ _ => True) (ex := []) 0 (by exact ⟨.inr (is_sg _ _), .inr (is_sg _ _), .inr (is_sg _ _), .inr (is_sg _ _), .inr (is_sg _ _), .inr (is_sg _ _), .inr (is_sg _ _), .inr (is_sg _ _), .inr (is_sg _ _), .inr (is_sg _ _), .inr (is_sg _ _), .inr (is_sg _ _), .inr (is_sg _ _), .inr (is_sg _ _), .inr (is_sg _ _), .inr (is_sg _ _), .inr (is_sg _ _), .inr (is_sg _ _), .inr (any_sg _), .inr (is_sg _ _), .inr (any_sg _), .inr (is_sg _ _), .inr (any_sg _), trivial⟩) j u _ _ rfl trivial hr⟩) trivial
          · rw [HOT.out _ (by have := HBG.out; omega)]
            exact HC2.out
          · rw [HST.out, mixS_2]
            rfl
          · exact ownk_setCell_other HC4.out (by have := HOG.out; exact this) _
        · intro L ev w' hC hL hx K hK
          have e6 : ev (.tmp 6) = _ := hx.base 6 (by kernel_rfl)
          have HK := Lib.hid hK
          have HC := Lib.hid hC
          have HL := Lib.hid hL
          have HX := Lib.hid hx
          have hc := hx.cst
          skip
          clear hx hK hC hL
          unfold Run
          simp [execOp, Upon, go_sem, *]
          exact HK.out _ _ (.inl ⟨Below.refl _ _, by decide⟩) rfl
        · intro L ev w' hC hL hx K hK
          have e36 := hx.held 6 _ rfl (by kernel_rfl)
          have e48 := hx.held 19 _ rfl (by kernel_rfl)
          change ev (.tmp 36) = _ at e36
          change ev (.tmp 48) = _ at e48
          have HK := Lib.hid hK
          have HC := Lib.hid hC
          have HL := Lib.hid hL
          have HX := Lib.hid hx
          have hc := hx.cst
          skip
          clear hx hK hC hL
          obtain ⟨hC1, hC2, hC3, hC4, hC5⟩ := HC.out
          have hcl := cell_of_row _ _ 1 _ _ _ hC3
          have hfz := frozen_of_row _ _ 1 _ _ hC3
          rw [mixC_1] at hcl
          have HST := Lib.hid (heap_setCell_same w' g 1 _ _ (.bool mr) hC3)
          have HOT := Lib.hid (fun (j : Nat) (hj : j ≠ g) => heap_setCell_other w' ⟨g, 1, none⟩ j (.bool mr) hj)
          
          have HC1 := Lib.hid hC1
          have HC2 := Lib.hid hC2
          have HC4 := Lib.hid hC4
          have HC5 := Lib.hid hC5
          clear hC1 hC2 hC3 hC4 hC5
          have hrun := run_store_cell (P := Try.prog) w' g 1 4 (.bool mr) _ (by kernel_rfl) rfl rfl hcl hfz
          unfold Run
          rw [run_storeE 4 _ _ rfl e48 e36 hrun]
          refine HK.out _ _ (.inr ⟨⟨HC1.out.setCell HGB.out _, ?_, ?_, ?_, by simp; exact HC5.out⟩, fun j hj hlj u hr => rl_sg (S := fun _ _ => True) (ex := []) 0 (by exact ⟨.inr (is_sg _ _), .inr (is_sg _ _), .inr (is_sg _ _), .inr (is_sg _ _), .inr (is_sg _ _), .inr (is_sg _ _), .inr (is_sg _ _), .inr (is_sg _ _), .inr (is_sg _ _), .inr (is_sg _ _), .inr (is_sg _ _), .inr (is_sg _ _), .inr (is_sg _ _), .inr (is_sg _ _), .inr (is_sg _ _), .inr (is_sg _ _), .inr (is_sg _ _), .inr (is_sg _ _), .inr (any_sg _), .inr (is_sg _ _), .inr (any_sg _), .inr (is_sg _ _), .inr (any_sg _), trivial⟩) j u _ _ rfl trivial hr⟩) trivial
          · rw [HOT.out _ (by have := HBG.out; omega)]
            exact HC2.out
          · rw [HST.out, mixS_1]
            rfl
          · exact ownk_setCell_other HC4.out (by have := HOG.out; exact this) _
        · intro L ev w' hC hL hx K hK
          have e6 : ev (.tmp 6) = _ := hx.base 6 (by kernel_rfl)
          have HK := Lib.hid hK
          have HC := Lib.hid hC
          have HL := Lib.hid hL
          have HX := Lib.hid hx
          have hc := hx.cst
          skip
          clear hx hK hC hL
          unfold Run
          simp [execOp, Upon, go_sem, *]
          exact HK.out _ _ (.inl ⟨Below.refl _ _, by decide⟩) rfl
        · intro L ev w' hC hL hx K hK
          have e46 := hx.held 16 _ rfl (by kernel_rfl)
          have e49 := hx.held 21 _ rfl (by kernel_rfl)
          change ev (.tmp 46) = _ at e46
          change ev (.tmp 49) = _ at e49
          have HK := Lib.hid hK
          have HC := Lib.hid hC
          have HL := Lib.hid hL
          have HX := Lib.hid hx
          have hc := hx.cst
          skip
          clear hx hK hC hL
          obtain ⟨hC1, hC2, hC3, hC4, hC5⟩ := HC.out
          have hcl := cell_of_row _ _ 13 _ _ _ hC3
          have hfz := frozen_of_row _ _ 13 _ _ hC3
          rw [mixC_13 _ _ _ _ _ _ _ _ HOK.out] at hcl
          have HST := Lib.hid (heap_setCell_same w' g 13 _ _ (.slice A2 m2 c2) hC3)
          have HOT := Lib.hid (fun (j : Nat) (hj : j ≠ g) => heap_setCell_other w' ⟨g, 13, none⟩ j (.slice A2 m2 c2) hj)
          
          have HC1 := Lib.hid hC1
          have HC2 := Lib.hid hC2
          have HC4 := Lib.hid hC4
          have HC5 := Lib.hid hC5
          clear hC1 hC2 hC3 hC4 hC5
          have hrun := run_store_cell (P := Try.prog) w' g 13 25 (.slice A2 m2 c2) _ (by kernel_rfl) rfl rfl hcl hfz
          unfold Run
          rw [run_storeE 25 _ _ rfl e49 e46 hrun]
          refine HK.out _ _ (.inr ⟨⟨HC1.out.setCell HGB.out _, ?_, ?_, ?_, by simp; exact HC5.out⟩, fun j hj hlj u hr => rl_sg (S := fun _ _ => True) (ex := []) 0 (by exact ⟨.inr (is_sg _ _), .inr (is_sg _ _), .inr (is_sg _ _), .inr (is_sg _ _), .inr (is_sg _ _), .inr (is_sg _ _), .inr (is_sg _ _), .inr (is_sg _ _), .inr (is_sg _ _), .inr (is_sg _ _), .inr (is_sg _ _), .inr (is_sg _ _), .inr (is_sg _ _), .inr (is_sg _ _), .inr (is_sg _ _), .inr (is_sg _ _), .inr (is_sg _ _), .inr (is_sg _ _), .inr (any_sg _), .inr (is_sg _ _), .inr (any_sg _), .inr (is_sg _ _), .inr (any_sg _), trivial⟩) j u _ _ rfl trivial hr⟩) trivial
          · rw [HOT.out _ (by have := HBG.out; omega)]
            exact HC2.out
          · rw [HST.out, mixS_13 _ _ _ _ _ _ _ _ HOK.out]
            rfl
          · exact ownk_setCell_other HC4.out (by have := HOG.out; exact this) _
      · exact rl_mono ⟨is_mono _, is_mono _, is_mono _, is_mono _, is_mono _, is_mono _, is_mono _, is_mono _, is_mono _, is_mono _, is_mono _, is_mono _, is_mono _, is_mono _, is_mono _, is_mono _, is_mono _, is_mono _, any_mono, is_mono _, any_mono, is_mono _, any_mono, trivial⟩
      · exact fun L L' w1 he h => ⟨h.1, h.2.1, by rw [← he 18 (by simp), ← he 20 (by simp), ← he 22 (by simp)]; exact h.2.2.1, h.2.2.2⟩
      · exact fun L w1 w2 hb h => ⟨h.1.trans (hb.mono h.1.size), (hb.block _ (row_lt h.2.1)).trans h.2.1, (hb.block _ (row_lt h.2.2.1)).trans h.2.2.1, ownk_below h.2.2.2.1 hb (Nat.le_refl _), Nat.lt_of_lt_of_le h.2.2.2.2 hb.size⟩
      · exact ⟨HBEL2.out, HBX2.out, HMX.out, HOWN2.out, HGL.out⟩
      · simp
      intro us wr hG hH
      obtain ⟨-, -, -, -, -, -, -, -, -, -, -, -, -, -, -, -, -, -, -, -, -, -, -, -⟩ := hH
      simp only [fillM]
      generalize us 30 = v30
      generalize us 31 = v31
      generalize us 32 = v32
      generalize us 33 = v33
      generalize us 34 = v34
      generalize us 35 = v35
      generalize us 36 = v36
      generalize us 37 = v37
      generalize us 38 = v38
      generalize us 39 = v39
      generalize us 40 = v40
      generalize us 41 = v41
      generalize us 42 = v42
      generalize us 43 = v43
      generalize us 44 = v44
      generalize us 45 = v45
      generalize us 46 = v46
      generalize us 47 = v47
      generalize us 48 = v48
      generalize us 49 = v49
      obtain ⟨g1, g2, g3, g4, -⟩ := hG
      have HG1 := Lib.hid g1
      have HG2 := Lib.hid g2
      have HG4 := Lib.hid g4
      obtain ⟨C3, hC3⟩ : ∃ C3, (pkC { p with off := (o : Int), more := mr } (.slice A2 m2 c2)).toArray = C3 := ⟨_, rfl⟩
      have HG3 : Hid (wr.heap[g]? = some (.cells C3 27 (0, 0))) := by rw [← hC3]; exact g3
      rw [hC3] at HQ
      have HS3 : Hid (C3.size = 14 ∧ ∀ u ∈ C3.toList, u.oneCell' = true) := ⟨HQ.out.size, fun u hu => Array.all_eq_true_iff_forall_mem.1 HQ.out.one u (by simpa using hu)⟩
      obtain ⟨i0, hi0, hz0, hz1, hz2⟩ := info_parts info_pk
      have HWG : Hid (w.heap.size + 1 ≤ wr.heap.size) := by have := row_lt g2; show _ ≤ _; omega
      clear g1 g2 g3 g4 hC3 HSL hw176 HMN HMR HOWN2 HBX2 HBEL2 HMX HGL
      go_wp2_with (first | refine wpList_load_row rfl 27 _ rfl g rfl 27 C3 (0, 0) _ HG3.out Try.underlying27 rfl (size_pk HS3.out.1) ?_ | refine wpList_build_one rfl 29 27 _ rfl C3 rfl Try.underlying29 14 (by decide) (by decide) (by kernel_rfl) HS3.out.1 ?_ | (at_builtin; refine wpList_append_elem rfl _ _ 29 rfl (w.heap.size + 1) 27 i0 _ 14 56 Try.underlying29 hi0 hz0 hz1 hz2 rfl (by decide) v4 k xs rfl (HG4.out.alloc _) wr.heap.size 1 C3 27 (0, 0) rfl (heap_alloc_new wr _) HS3.out.1 HS3.out.2 (by unfold maxLen; omega) (by omega) (by have := HWG.out; simp; omega) ?_; intro v5 w5 hown5 hgrow5 _; have HOW5 := Lib.hid hown5; have HGW5 := Lib.hid hgrow5; clear hown5 hgrow5))
      have HB5 : Hid (Below w.heap.size w w5) := (HG1.out.alloc HG1.out.size _).grown HGW5.out (by have := HG1.out.size; simp; omega) fun g' hg' => by have := HG4.out.lt g' hg'; omega
      have HX5 : Hid (w5.heap[w.heap.size]? = some (.cells C0 27 (0, 0))) := (HGW5.out.block _ (row_lt (old_alloc HG2.out _)) (fun he => by have := HG4.out.lt _ he.symm; omega)).trans (old_alloc HG2.out _)
      have HR5 : Hid (RowOf 14 (fun cs q => PkV w lo hi cs.toArray q) (xs ++ C3.toList) (splitL p (k + 1))) := by
        show RowOf _ _ _ _
        rw [splitL_succ, HQ1.out]
        exact HROW.out.append (RowOf.one HQ.out (by simpa using HS3.out.1))
      have HON : Hid (o ≤ n) := hon
      clear hi0 hz0 hz1 hz2
      go_roundw
      case rel => exact ⟨k + 1, o + 176, xs ++ C3.toList, by go_num, by omega, (by have := HO.out; show _ = _; omega), HKS, HOW5, HR5, HB5, HX5⟩
      case measure => simp [intOf]; omega
end Go.Proofs.Ytkgfphkhnhdemaa
