/-
  The document's Room and put. No condition.
-/
import Derived.Test.YtagajijjcjfopaaRf
import Derived.Lib.Strings
namespace Go.Proofs.Ytagajijjcjfopaa
open Go.RowKit

def roomB (T : Nat) (L : List Bk) (a n : Nat) : Bool := decide (a + n ≤ T) && L.all fun b => !decide (b.1 < a + n ∧ a < b.1 + b.2)

set_option maxRecDepth 100000 in
set_option maxHeartbeats 1000000 in
theorem refroom_any {B : List UInt8} {L : List Bk} {D : List Bool} {v : Value} (a n : Nat) (w : World) (hv : Rf B L D v w) (hR : RightH B L D) (ha : a ≤ 10000) (hn : n ≤ 10000) :
    Calls Try.prog 46 #[v, .int .i64 (a : Int), .int .i64 (n : Int)] w fun e w' => e = .returned (.bool (roomB B.length L a n)) ∧ Below w.heap.size w w' := by
  obtain ⟨nb, hnb⟩ : ∃ k, B.length = k := ⟨_, rfl⟩
  obtain ⟨nk, hnk⟩ : ∃ k, L.length = k := ⟨_, rfl⟩
  obtain ⟨nd, hnd⟩ : ∃ k, D.length = k := ⟨_, rfl⟩
  obtain ⟨v1, v2, v3, rfl, hv⟩ := hv
  obtain ⟨A2, c2, A3, c3, rfl, rfl, rfl⟩ := hv.forms hnk hnd
  have hmy : nk ≤ 4096 := by have := hR.many; omega
  have hby : nb ≤ 4096 := by have := hR.bytes; omega
  have hv2 := hv.2.1
  rw [hnk] at hv2
  obtain ⟨S, hS⟩ : ∃ S : ByteArray, ⟨B.toArray⟩ = S := ⟨_, rfl⟩
  have hSz : S.size = nb := by rw [← hS, ← hnb]; rfl
  rw [hS]
  have HR := Lib.hid hR
  have HNK := Lib.hid hnk
  have HNB := Lib.hid hnb
  have HB1 : Hid (Below w.heap.size w (w.alloc (.cells #[.string S, .slice A2 nk c2, .slice A3 nd c3] 35))) := (Below.refl _ _).alloc (Nat.le_refl _) _
  have HX := Lib.hid (heap_alloc_new w (.cells #[.string S, .slice A2 nk c2, .slice A3 nd c3] 35))
  have HV := Lib.hid (ownk_below hv2 HB1.out (Nat.le_refl _))
  rw [hnb]
  clear hv hv2 hnk hnd hR hnb hS
  go_enter Try.func46, Try.ntmps46
  go_upto_region 1 with (fail)
  generalize w.alloc (.cells #[.string S, .slice A2 nk c2, .slice A3 nd c3] 35) = w1 at HB1 HX HV ⊢
  generalize w.heap.size = b1 at HX ⊢
  by_cases q0 : nb < a + n
  · have q0' : (nb : Int) < (a : Int) + (n : Int) := by omega
    have HG : Hid (roomB nb L a n = false) := by
      show _ = _
      unfold roomB
      rw [decide_eq_false (by omega), Bool.false_and]
    obtain ⟨x0, x1, x2⟩ := three_cells HX.out
    go_wp2
    go_ret
    exact ⟨by rw [HG.out]; rfl, HB1.out⟩
  have q0' : (a : Int) + (n : Int) ≤ (nb : Int) := by omega
  obtain ⟨x0, x1, x2⟩ := three_cells HX.out
  go_wp2
  clear x0 x1 x2
  go_loopw [7] (fun t7 wr => ∃ k : Nat, k ≤ nk ∧ t7 = .int .i64 (k : Int) ∧ Hid (∀ j b, j < k → L[j]? = some b → ¬ (b.1 < a + n ∧ a < b.1 + b.2)) ∧ w1 = wr) (fun t7 _ => nk - (intOf t7).toNat)
  case atStart => exact ⟨0, Nat.zero_le _, rfl, Lib.hid (fun j b hj => by omega), rfl⟩
  case round =>
    obtain ⟨k, hk, rfl, HNO, rfl⟩ := hrel
    obtain ⟨x0, x1, x2⟩ := three_cells HX.out
    by_cases hlt : k < nk
    · obtain ⟨⟨f, m⟩, hbk⟩ : ∃ p, L[k]? = some p := ⟨_, List.getElem?_eq_getElem (by rw [HNK.out]; exact hlt)⟩
      obtain ⟨g, rfl, hgc, y0, y1⟩ := rb_cells HV.out hbk HNK.out
      have hbd := blk_bound HR.out.blk _ (List.mem_of_getElem? hbk)
      rw [HNB.out] at hbd
      simp only at hbd y0 y1
      have HBK := Lib.hid hbk
      clear hbk
      by_cases q1 : (f : Int) < (a : Int) + (n : Int)
      · by_cases q2 : (a : Int) < (f : Int) + (m : Int)
        · have HG : Hid (roomB nb L a n = false) := by
            show _ = _
            unfold roomB
            rw [List.all_eq_false.2 ⟨_, List.mem_of_getElem? HBK.out, by simp; omega⟩, Bool.and_false]
          go_wp2
          go_ret
          exact ⟨by rw [HG.out]; rfl, HB1.out⟩
        · have HN2 : Hid (∀ j b, j < k + 1 → L[j]? = some b → ¬ (b.1 < a + n ∧ a < b.1 + b.2)) := fun j b hj hb => by
            by_cases hjk : j < k
            · exact HNO.out j b hjk hb
            · obtain rfl : j = k := by omega
              rw [HBK.out] at hb
              injection hb with hb
              rw [← hb]
              simp only
              omega
          go_wp2
          go_roundw
          case rel => exact ⟨k + 1, by omega, by go_num, HN2, trivial⟩
          case measure => simp [intOf]; omega
      · have HN2 : Hid (∀ j b, j < k + 1 → L[j]? = some b → ¬ (b.1 < a + n ∧ a < b.1 + b.2)) := fun j b hj hb => by
          by_cases hjk : j < k
          · exact HNO.out j b hjk hb
          · obtain rfl : j = k := by omega
            rw [HBK.out] at hb
            injection hb with hb
            rw [← hb]
            simp only
            omega
        go_wp2
        go_roundw
        case rel => exact ⟨k + 1, by omega, by go_num, HN2, trivial⟩
        case measure => simp [intOf]; omega
    · obtain rfl : k = nk := by omega
      have HG : Hid (roomB nb L a n = true) := by
        show _ = _
        unfold roomB
        rw [decide_eq_true (by omega), Bool.true_and]
        refine List.all_eq_true.2 fun b hb => ?_
        obtain ⟨i, hi, rfl⟩ := List.mem_iff_getElem.1 hb
        have := HNO.out i _ (by rw [← HNK.out]; exact hi) (List.getElem?_eq_getElem hi)
        rw [decide_eq_false this]
        rfl
      go_wp2
      go_ret
      exact ⟨by rw [HG.out]; rfl, HB1.out⟩

theorem mark_get (D : List Bool) (a n p : Nat) : (markD D a n)[p]? = D[p]?.map fun d => d || (decide (n ≠ 0) && decide (a < 64 * (p + 1)) && decide (64 * p < a + n)) := by
  unfold markD
  split
  · rename_i h
    cases h2 : D[p]? <;> simp [h]
  · rename_i h
    rw [List.getElem?_mapIdx]
    cases h2 : D[p]? with
    | none => rfl
    | some d =>
      simp only [Option.map_some]
      congr 2
      rw [decide_eq_true h, Bool.true_and, ← Bool.decide_and]
      congr 1
      apply propext
      omega
theorem take_snoc {α : Type} {l : List α} {k : Nat} {x : α} (h : l[k]? = some x) : l.take (k + 1) = l.take k ++ [x] := by
  rw [List.take_add_one, h]
  rfl
theorem str_none {l : List UInt8} {Z : ByteArray} (h : ⟨l.toArray⟩ = Z) (h0 : l.length = 0) : (Z.toList == (⟨#[]⟩ : ByteArray).toList) = true ∧ (Z.toList == []) = true ∧ (Z.toList != []) = false := by
  rw [← h, List.length_eq_zero_iff.1 h0]
  have he : (⟨#[]⟩ : ByteArray).toList = [] := Lib.toList_data ⟨#[]⟩
  have he2 : (⟨([] : List UInt8).toArray⟩ : ByteArray).toList = [] := he
  rw [he2]
  exact ⟨rfl, rfl, rfl⟩
theorem str_some {l : List UInt8} {Z : ByteArray} (h : ⟨l.toArray⟩ = Z) (h0 : ¬ l.length = 0) : (Z.toList == (⟨#[]⟩ : ByteArray).toList) = false ∧ (Z.toList == []) = false ∧ (Z.toList != []) = true := by
  have hz : Z.toList ≠ [] := by
    rw [← h, Lib.toList_data]
    intro h2
    exact h0 (congrArg List.length h2)
  have he : (⟨#[]⟩ : ByteArray).toList = [] := Lib.toList_data ⟨#[]⟩
  rw [he]
  exact ⟨beq_eq_false_iff_ne.2 hz, beq_eq_false_iff_ne.2 hz, bne_iff_ne.2 hz⟩
theorem str_append (l m : List UInt8) : (⟨l.toArray⟩ : ByteArray) ++ ⟨m.toArray⟩ = ⟨(l ++ m).toArray⟩ := by
  apply ByteArray.ext
  show ((⟨l.toArray⟩ : ByteArray) ++ ⟨m.toArray⟩).data = _
  rw [ByteArray.data_append]
  simp

theorem str_put {B l : List UInt8} {S Z : ByteArray} {a n nb : Nat} (hS : ⟨B.toArray⟩ = S) (hZ : ⟨l.toArray⟩ = Z) (hb : B.length = nb) (hn : l.length = n) (h : a + n ≤ nb) : S.extract 0 a ++ Z ++ S.extract (a + n) nb = ⟨(putB B a l).toArray⟩ := by
  subst hS hZ hb hn
  rw [Lib.extract_eq, Lib.extract_eq, str_append, str_append]
  unfold putB
  congr 2
  simp only [List.drop_zero, Nat.sub_zero]
  rw [List.take_of_length_le (l := B.drop (a + l.length)) (by rw [List.length_drop]; exact Nat.le_refl _)]
theorem ref_end {B : List UInt8} {L : List Bk} {D : List Bool} {w w5 : World} {v1 v2 v3 : Value} {M N : Nat} {old : Array Value} (hv : RfV B L D w5 v1 v2 v3) (hM : w5.heap[M]? = some (.cells old 35 (0, 0))) (hb : Below N w w5) (hN : N ≤ M) :
    Rf B L D (.agg #[v1, v2, v3]) (w5.setRow M #[v1, v2, v3]) ∧ Below N w (w5.setRow M #[v1, v2, v3]) ∧ (w5.setRow M #[v1, v2, v3]).heap[M]? = some (.cells #[v1, v2, v3] 35 (0, 0)) :=
  ⟨(hv.other hM (by decide) (by decide) (setRow_cells _ _ _)).shut, below_setRow hb hN _, setRow_heap _ _ _ _ _ _ hM⟩
theorem ref_start {B : List UInt8} {L : List Bk} {D : List Bool} {w w1 : World} {v1 v2 v3 : Value} (hv : RfV B L D w v1 v2 v3) (h : (w.alloc (.cells #[v1, v2, v3] 35)).alloc (.cells #[.string ⟨#[]⟩, .slice none 0 0, .slice none 0 0] 35) = w1) :
    Below w.heap.size w w1 ∧ w1.heap[w.heap.size]? = some (.cells #[v1, v2, v3] 35 (0, 0)) ∧ w1.heap[w.heap.size + 1]? = some (.cells #[.string ⟨#[]⟩, .slice none 0 0, .slice none 0 0] 35 (0, 0)) ∧ RfV B L D w1 v1 v2 v3 := by
  subst h
  refine ⟨((Below.refl _ _).alloc (Nat.le_refl _) _).alloc (by simp) _, old_alloc (heap_alloc_new w _) _, ?_, (hv.alloc _).alloc _⟩
  have := heap_alloc_new (w.alloc (.cells #[v1, v2, v3] 35)) (.cells #[.string ⟨#[]⟩, .slice none 0 0, .slice none 0 0] 35)
  rwa [World.size_alloc] at this

set_option maxRecDepth 100000 in
set_option maxHeartbeats 1000000 in
theorem refput_any {B : List UInt8} {L : List Bk} {D : List Bool} {v : Value} (a : Nat) (l : List UInt8) (w : World) (hv : Rf B L D v w) (hl : a + l.length ≤ B.length) (hby : B.length ≤ 4096) (hdy : D.length ≤ 64) :
    Calls Try.prog 47 #[v, .int .i64 (a : Int), .string ⟨l.toArray⟩] w fun e w' => ∃ v', e = .returned v' ∧ Rf (putB B a l) L (markD D a l.length) v' w' ∧ Below w.heap.size w w' := by
  obtain ⟨nb, hnb⟩ : ∃ k, B.length = k := ⟨_, rfl⟩
  obtain ⟨nk, hnk⟩ : ∃ k, L.length = k := ⟨_, rfl⟩
  obtain ⟨nd, hnd⟩ : ∃ k, D.length = k := ⟨_, rfl⟩
  obtain ⟨n, hn⟩ : ∃ k, l.length = k := ⟨_, rfl⟩
  obtain ⟨v1, v2, v3, rfl, hv⟩ := hv
  obtain ⟨A2, c2, A3, c3, rfl, rfl, rfl⟩ := hv.forms hnk hnd
  obtain ⟨S, hS⟩ : ∃ S : ByteArray, ⟨B.toArray⟩ = S := ⟨_, rfl⟩
  obtain ⟨Z, hZ⟩ : ∃ Z : ByteArray, ⟨l.toArray⟩ = Z := ⟨_, rfl⟩
  have hSz : S.size = nb := by rw [← hS, ← hnb]; rfl
  have hZz : Z.size = n := by rw [← hZ, ← hn]; rfl
  rw [hnb, hn] at hl
  rw [hnb] at hby
  rw [hnd] at hdy
  rw [hS, hZ, hn]
  have HS := Lib.hid hS
  have HZ := Lib.hid hZ
  have HNB := Lib.hid hnb
  have HNK := Lib.hid hnk
  have HND := Lib.hid hnd
  have HN := Lib.hid hn
  have HB1 : Hid (Below w.heap.size w ((w.alloc (.cells #[.string S, .slice A2 nk c2, .slice A3 nd c3] 35)).alloc (.cells #[.string ⟨#[]⟩, .slice none 0 0, .slice none 0 0] 35))) := ((Below.refl _ _).alloc (Nat.le_refl _) _).alloc (by simp) _
  have HX := Lib.hid (old_alloc (heap_alloc_new w (.cells #[.string S, .slice A2 nk c2, .slice A3 nd c3] 35)) (.cells #[.string ⟨#[]⟩, .slice none 0 0, .slice none 0 0] 35))
  have HY := Lib.hid (heap_alloc_new (w.alloc (.cells #[.string S, .slice A2 nk c2, .slice A3 nd c3] 35)) (.cells #[.string ⟨#[]⟩, .slice none 0 0, .slice none 0 0] 35))
  have hv2 := hv.2.1
  have hv3 := hv.2.2
  rw [hnk] at hv2
  rw [hnd] at hv3
  have HV2 := Lib.hid (ownk_below hv2 HB1.out (Nat.le_refl _))
  have HV3 := Lib.hid (ownk_below hv3 HB1.out (Nat.le_refl _))
  obtain ⟨i0, hi0, hz0, hz1, hz2⟩ := info_parts info_tf
  clear hv hv2 hv3 hnk hnd hnb hS hZ hn
  go_enter Try.func47, Try.ntmps47
  go_upto_region 1 with (fail)
  have hbs : (w.alloc (.cells #[.string S, .slice A2 nk c2, .slice A3 nd c3] 35)).heap.size = w.heap.size + 1 := by simp
  rw [hbs] at HY
  generalize (w.alloc (.cells #[.string S, .slice A2 nk c2, .slice A3 nd c3] 35)).alloc (.cells #[.string ⟨#[]⟩, .slice none 0 0, .slice none 0 0] 35) = w1 at HB1 HX HY HV2 HV3 ⊢
  clear hbs
  go_wp2
  go_loopw [8, 7] (fun t8 t7 wr => ∃ (k : Nat) (x7 : Value), k ≤ nd ∧ t8 = .int .i64 (k : Int) ∧ x7 = t7 ∧ Hid (wr.ownsRow w1.heap.size 4 1 x7 k (tfs ((markD D a n).take k))) ∧ Hid (Below w1.heap.size w1 wr)) (fun t8 _ _ => nd - (intOf t8).toNat)
  case atStart => exact ⟨0, _, Nat.zero_le _, rfl, rfl, Lib.hid (World.ownsRow_nil _ _ _ _), Lib.hid (Below.refl _ _)⟩
  case round =>
    obtain ⟨k, x7, hk, rfl, rfl, HOW, HBEL⟩ := hrel
    have HX2 := Lib.hid (old_below HX.out HBEL.out (row_lt HX.out))
    obtain ⟨x0, x1, x2⟩ := three_cells HX2.out
    by_cases hlt : k < nd
    · obtain ⟨b, hb⟩ : ∃ b, D[k]? = some b := ⟨_, List.getElem?_eq_getElem (by rw [HND.out]; exact hlt)⟩
      have hv3 := ownk_below HV3.out HBEL.out (Nat.le_refl _)
      obtain ⟨g3, cq, cur, e3, -, -, hg3, -⟩ := ownk_some hv3 (by omega)
      injection e3 with e3 _ e4
      subst e3 e4
      have hy := own_cell hv3 (j := k) (u := .bool b) (by simp [tfs, hb])
      have hmk := mark_get D a n k
      rw [hb, Option.map_some] at hmk
      have HTK := Lib.hid (take_snoc hmk)
      clear hb hv3 hmk
      by_cases q0 : n = 0
      · obtain ⟨hstr, hstr2, hstr3⟩ := str_none HZ.out (by rw [HN.out]; exact q0)
        have HTB : Hid ((decide (n ≠ 0) && decide (a < 64 * (k + 1)) && decide (64 * k < a + n)) = false) := by show _ = _; simp; omega
        clear q0
        have HTK2 := HTK.out
        rw [HTB.out] at HTK2
        have HTK3 := Lib.hid HTK2
        clear HTK2 HTB
        cases b
        · have HOA := Lib.hid (ownk_below HOW.out ((Below.refl _ _).alloc (Nat.le_refl _) (.cells #[.bool false] 4)) (Nat.le_refl _))
          have HRN := Lib.hid (rd_new wr [.bool false] 4 (0, 0))
          have HSZ := Lib.hid HBEL.out.size
          go_wp2_with (at_builtin; refine wpList_append_rd (P := Try.prog) rfl _ _ 27 rfl w1.heap.size 4 i0 _ 1 Try.underlying27 hi0 hz0 hz1 hz2 rfl x7 k (tfs ((markD D a n).take k)) rfl HOA.out (some ⟨wr.heap.size, 0, none⟩) 1 1 [.bool false] rfl (fun h => by cases h) rfl HRN.out (by intro u hu; simp at hu; subst hu; rfl) (by unfold maxLen; omega) (by omega) (by have := HSZ.out; simp; omega) ?_)
          intro v9 w9 hown9 hgr9
          have HB9 : Hid (Below w1.heap.size w1 w9) := (HBEL.out.alloc HSZ.out _).grown hgr9 (by have := HSZ.out; simp; omega) fun g hg => (HOW.out.lt g hg).1
          have HO9 : Hid (w9.ownsRow w1.heap.size 4 1 v9 (k + 1) (tfs ((markD D a n).take (k + 1)))) := by
            show World.ownsRow _ _ _ _ _ _ _
            rw [HTK3.out]
            simpa [tfs] using hown9
          clear hown9 hgr9
          go_wp2
          go_roundw
          case rel => exact ⟨k + 1, _, by omega, by go_num, rfl, HO9, HB9⟩
          case measure => simp [intOf]; omega
        · have HOA := Lib.hid (ownk_below HOW.out ((Below.refl _ _).alloc (Nat.le_refl _) (.cells #[.bool true] 4)) (Nat.le_refl _))
          have HRN := Lib.hid (rd_new wr [.bool true] 4 (0, 0))
          have HSZ := Lib.hid HBEL.out.size
          go_wp2_with (at_builtin; refine wpList_append_rd (P := Try.prog) rfl _ _ 27 rfl w1.heap.size 4 i0 _ 1 Try.underlying27 hi0 hz0 hz1 hz2 rfl x7 k (tfs ((markD D a n).take k)) rfl HOA.out (some ⟨wr.heap.size, 0, none⟩) 1 1 [.bool true] rfl (fun h => by cases h) rfl HRN.out (by intro u hu; simp at hu; subst hu; rfl) (by unfold maxLen; omega) (by omega) (by have := HSZ.out; simp; omega) ?_)
          intro v9 w9 hown9 hgr9
          have HB9 : Hid (Below w1.heap.size w1 w9) := (HBEL.out.alloc HSZ.out _).grown hgr9 (by have := HSZ.out; simp; omega) fun g hg => (HOW.out.lt g hg).1
          have HO9 : Hid (w9.ownsRow w1.heap.size 4 1 v9 (k + 1) (tfs ((markD D a n).take (k + 1)))) := by
            show World.ownsRow _ _ _ _ _ _ _
            rw [HTK3.out]
            simpa [tfs] using hown9
          clear hown9 hgr9
          go_wp2
          go_roundw
          case rel => exact ⟨k + 1, _, by omega, by go_num, rfl, HO9, HB9⟩
          case measure => simp [intOf]; omega
      obtain ⟨hstr, hstr2, hstr3⟩ := str_some HZ.out (by rw [HN.out]; exact q0)
      by_cases q1 : (a : Int) < 64 * ((k : Int) + 1)
      · by_cases q2 : 64 * (k : Int) < (a : Int) + (n : Int)
        · have HTB : Hid ((decide (n ≠ 0) && decide (a < 64 * (k + 1)) && decide (64 * k < a + n)) = true) := by show _ = _; simp; omega
          have HTK2 := HTK.out
          rw [HTB.out] at HTK2
          have HTK3 := Lib.hid HTK2
          clear HTK2 HTB
          cases b
          · have HOA := Lib.hid (ownk_below HOW.out ((Below.refl _ _).alloc (Nat.le_refl _) (.cells #[.bool true] 4)) (Nat.le_refl _))
            have HRN := Lib.hid (rd_new wr [.bool true] 4 (0, 0))
            have HSZ := Lib.hid HBEL.out.size
            go_wp2_with (at_builtin; refine wpList_append_rd (P := Try.prog) rfl _ _ 27 rfl w1.heap.size 4 i0 _ 1 Try.underlying27 hi0 hz0 hz1 hz2 rfl x7 k (tfs ((markD D a n).take k)) rfl HOA.out (some ⟨wr.heap.size, 0, none⟩) 1 1 [.bool true] rfl (fun h => by cases h) rfl HRN.out (by intro u hu; simp at hu; subst hu; rfl) (by unfold maxLen; omega) (by omega) (by have := HSZ.out; simp; omega) ?_)
            intro v9 w9 hown9 hgr9
            have HB9 : Hid (Below w1.heap.size w1 w9) := (HBEL.out.alloc HSZ.out _).grown hgr9 (by have := HSZ.out; simp; omega) fun g hg => (HOW.out.lt g hg).1
            have HO9 : Hid (w9.ownsRow w1.heap.size 4 1 v9 (k + 1) (tfs ((markD D a n).take (k + 1)))) := by
              show World.ownsRow _ _ _ _ _ _ _
              rw [HTK3.out]
              simpa [tfs] using hown9
            clear hown9 hgr9
            go_wp2
            go_roundw
            case rel => exact ⟨k + 1, _, by omega, by go_num, rfl, HO9, HB9⟩
            case measure => simp [intOf]; omega
          · have HOA := Lib.hid (ownk_below HOW.out ((Below.refl _ _).alloc (Nat.le_refl _) (.cells #[.bool true] 4)) (Nat.le_refl _))
            have HRN := Lib.hid (rd_new wr [.bool true] 4 (0, 0))
            have HSZ := Lib.hid HBEL.out.size
            go_wp2_with (at_builtin; refine wpList_append_rd (P := Try.prog) rfl _ _ 27 rfl w1.heap.size 4 i0 _ 1 Try.underlying27 hi0 hz0 hz1 hz2 rfl x7 k (tfs ((markD D a n).take k)) rfl HOA.out (some ⟨wr.heap.size, 0, none⟩) 1 1 [.bool true] rfl (fun h => by cases h) rfl HRN.out (by intro u hu; simp at hu; subst hu; rfl) (by unfold maxLen; omega) (by omega) (by have := HSZ.out; simp; omega) ?_)
            intro v9 w9 hown9 hgr9
            have HB9 : Hid (Below w1.heap.size w1 w9) := (HBEL.out.alloc HSZ.out _).grown hgr9 (by have := HSZ.out; simp; omega) fun g hg => (HOW.out.lt g hg).1
            have HO9 : Hid (w9.ownsRow w1.heap.size 4 1 v9 (k + 1) (tfs ((markD D a n).take (k + 1)))) := by
              show World.ownsRow _ _ _ _ _ _ _
              rw [HTK3.out]
              simpa [tfs] using hown9
            clear hown9 hgr9
            go_wp2
            go_roundw
            case rel => exact ⟨k + 1, _, by omega, by go_num, rfl, HO9, HB9⟩
            case measure => simp [intOf]; omega
        · have HTB : Hid ((decide (n ≠ 0) && decide (a < 64 * (k + 1)) && decide (64 * k < a + n)) = false) := by show _ = _; simp; omega
          have HTK2 := HTK.out
          rw [HTB.out] at HTK2
          have HTK3 := Lib.hid HTK2
          clear HTK2 HTB
          cases b
          · have HOA := Lib.hid (ownk_below HOW.out ((Below.refl _ _).alloc (Nat.le_refl _) (.cells #[.bool false] 4)) (Nat.le_refl _))
            have HRN := Lib.hid (rd_new wr [.bool false] 4 (0, 0))
            have HSZ := Lib.hid HBEL.out.size
            go_wp2_with (at_builtin; refine wpList_append_rd (P := Try.prog) rfl _ _ 27 rfl w1.heap.size 4 i0 _ 1 Try.underlying27 hi0 hz0 hz1 hz2 rfl x7 k (tfs ((markD D a n).take k)) rfl HOA.out (some ⟨wr.heap.size, 0, none⟩) 1 1 [.bool false] rfl (fun h => by cases h) rfl HRN.out (by intro u hu; simp at hu; subst hu; rfl) (by unfold maxLen; omega) (by omega) (by have := HSZ.out; simp; omega) ?_)
            intro v9 w9 hown9 hgr9
            have HB9 : Hid (Below w1.heap.size w1 w9) := (HBEL.out.alloc HSZ.out _).grown hgr9 (by have := HSZ.out; simp; omega) fun g hg => (HOW.out.lt g hg).1
            have HO9 : Hid (w9.ownsRow w1.heap.size 4 1 v9 (k + 1) (tfs ((markD D a n).take (k + 1)))) := by
              show World.ownsRow _ _ _ _ _ _ _
              rw [HTK3.out]
              simpa [tfs] using hown9
            clear hown9 hgr9
            go_wp2
            go_roundw
            case rel => exact ⟨k + 1, _, by omega, by go_num, rfl, HO9, HB9⟩
            case measure => simp [intOf]; omega
          · have HOA := Lib.hid (ownk_below HOW.out ((Below.refl _ _).alloc (Nat.le_refl _) (.cells #[.bool true] 4)) (Nat.le_refl _))
            have HRN := Lib.hid (rd_new wr [.bool true] 4 (0, 0))
            have HSZ := Lib.hid HBEL.out.size
            go_wp2_with (at_builtin; refine wpList_append_rd (P := Try.prog) rfl _ _ 27 rfl w1.heap.size 4 i0 _ 1 Try.underlying27 hi0 hz0 hz1 hz2 rfl x7 k (tfs ((markD D a n).take k)) rfl HOA.out (some ⟨wr.heap.size, 0, none⟩) 1 1 [.bool true] rfl (fun h => by cases h) rfl HRN.out (by intro u hu; simp at hu; subst hu; rfl) (by unfold maxLen; omega) (by omega) (by have := HSZ.out; simp; omega) ?_)
            intro v9 w9 hown9 hgr9
            have HB9 : Hid (Below w1.heap.size w1 w9) := (HBEL.out.alloc HSZ.out _).grown hgr9 (by have := HSZ.out; simp; omega) fun g hg => (HOW.out.lt g hg).1
            have HO9 : Hid (w9.ownsRow w1.heap.size 4 1 v9 (k + 1) (tfs ((markD D a n).take (k + 1)))) := by
              show World.ownsRow _ _ _ _ _ _ _
              rw [HTK3.out]
              simpa [tfs] using hown9
            clear hown9 hgr9
            go_wp2
            go_roundw
            case rel => exact ⟨k + 1, _, by omega, by go_num, rfl, HO9, HB9⟩
            case measure => simp [intOf]; omega
      · have HTB : Hid ((decide (n ≠ 0) && decide (a < 64 * (k + 1)) && decide (64 * k < a + n)) = false) := by show _ = _; simp; omega
        have HTK2 := HTK.out
        rw [HTB.out] at HTK2
        have HTK3 := Lib.hid HTK2
        clear HTK2 HTB
        cases b
        · have HOA := Lib.hid (ownk_below HOW.out ((Below.refl _ _).alloc (Nat.le_refl _) (.cells #[.bool false] 4)) (Nat.le_refl _))
          have HRN := Lib.hid (rd_new wr [.bool false] 4 (0, 0))
          have HSZ := Lib.hid HBEL.out.size
          go_wp2_with (at_builtin; refine wpList_append_rd (P := Try.prog) rfl _ _ 27 rfl w1.heap.size 4 i0 _ 1 Try.underlying27 hi0 hz0 hz1 hz2 rfl x7 k (tfs ((markD D a n).take k)) rfl HOA.out (some ⟨wr.heap.size, 0, none⟩) 1 1 [.bool false] rfl (fun h => by cases h) rfl HRN.out (by intro u hu; simp at hu; subst hu; rfl) (by unfold maxLen; omega) (by omega) (by have := HSZ.out; simp; omega) ?_)
          intro v9 w9 hown9 hgr9
          have HB9 : Hid (Below w1.heap.size w1 w9) := (HBEL.out.alloc HSZ.out _).grown hgr9 (by have := HSZ.out; simp; omega) fun g hg => (HOW.out.lt g hg).1
          have HO9 : Hid (w9.ownsRow w1.heap.size 4 1 v9 (k + 1) (tfs ((markD D a n).take (k + 1)))) := by
            show World.ownsRow _ _ _ _ _ _ _
            rw [HTK3.out]
            simpa [tfs] using hown9
          clear hown9 hgr9
          go_wp2
          go_roundw
          case rel => exact ⟨k + 1, _, by omega, by go_num, rfl, HO9, HB9⟩
          case measure => simp [intOf]; omega
        · have HOA := Lib.hid (ownk_below HOW.out ((Below.refl _ _).alloc (Nat.le_refl _) (.cells #[.bool true] 4)) (Nat.le_refl _))
          have HRN := Lib.hid (rd_new wr [.bool true] 4 (0, 0))
          have HSZ := Lib.hid HBEL.out.size
          go_wp2_with (at_builtin; refine wpList_append_rd (P := Try.prog) rfl _ _ 27 rfl w1.heap.size 4 i0 _ 1 Try.underlying27 hi0 hz0 hz1 hz2 rfl x7 k (tfs ((markD D a n).take k)) rfl HOA.out (some ⟨wr.heap.size, 0, none⟩) 1 1 [.bool true] rfl (fun h => by cases h) rfl HRN.out (by intro u hu; simp at hu; subst hu; rfl) (by unfold maxLen; omega) (by omega) (by have := HSZ.out; simp; omega) ?_)
          intro v9 w9 hown9 hgr9
          have HB9 : Hid (Below w1.heap.size w1 w9) := (HBEL.out.alloc HSZ.out _).grown hgr9 (by have := HSZ.out; simp; omega) fun g hg => (HOW.out.lt g hg).1
          have HO9 : Hid (w9.ownsRow w1.heap.size 4 1 v9 (k + 1) (tfs ((markD D a n).take (k + 1)))) := by
            show World.ownsRow _ _ _ _ _ _ _
            rw [HTK3.out]
            simpa [tfs] using hown9
          clear hown9 hgr9
          go_wp2
          go_roundw
          case rel => exact ⟨k + 1, _, by omega, by go_num, rfl, HO9, HB9⟩
          case measure => simp [intOf]; omega
    · obtain rfl : k = nd := by omega
      have HOD : Hid (wr.ownsRow w1.heap.size 4 1 x7 k (tfs (markD D a n))) := by
        have := HOW.out
        rwa [List.take_of_length_le (by rw [markD_length, HND.out]; exact Nat.le_refl _)] at this
      obtain ⟨A7, c7, rfl, -⟩ := ownk_form HOW.out
      go_upto_region 7 with (fail)
      have ha1 : (a : Int) ≤ (nb : Int) := by omega
      have ha2 : (a : Int) + (n : Int) ≤ (nb : Int) := by omega
      have hf0 := frozen_of_row wr w.heap.size 0 _ _ HX2.out
      have hf2 := frozen_of_row wr w.heap.size 2 _ _ HX2.out
      go_region
      have hS6 : S.extract 0 a ++ Z ++ S.extract (a + n) nb = ⟨(putB B a l).toArray⟩ := str_put HS.out HZ.out HNB.out HN.out (by omega)
      rw [hS6]
      clear x0 x1 x2 hf0 hf2 hS6
      have g1 := heap_setCell_same wr w.heap.size 0 _ _ (.string ⟨(putB B a l).toArray⟩) HX2.out
      have g2 := heap_setCell_same _ w.heap.size 2 _ _ (.slice A7 k c7) g1
      have HY2 := old_below HY.out HBEL.out (row_lt HY.out)
      have g3 : ((wr.setCell ⟨w.heap.size, 0, none⟩ (.string ⟨(putB B a l).toArray⟩)).setCell ⟨w.heap.size, 2, none⟩ (.slice A7 k c7)).heap[w.heap.size + 1]? = _ := ((heap_setCell_other _ _ _ _ (by simp)).trans (heap_setCell_other _ _ _ _ (by simp))).trans HY2
      have k2 := ownk_other (ownk_other (ownk_below HV2.out HBEL.out (Nat.le_refl _)) HX2.out (by decide) fun j hj => heap_setCell_other _ ⟨w.heap.size, 0, none⟩ j (.string ⟨(putB B a l).toArray⟩) hj) g1 (by decide) fun j hj => heap_setCell_other _ ⟨w.heap.size, 2, none⟩ j (.slice A7 k c7) hj
      have k3 := ownk_other (ownk_other HOD.out HX2.out (by decide) fun j hj => heap_setCell_other _ ⟨w.heap.size, 0, none⟩ j (.string ⟨(putB B a l).toArray⟩) hj) g1 (by decide) fun j hj => heap_setCell_other _ ⟨w.heap.size, 2, none⟩ j (.slice A7 k c7) hj
      have k4 : Below w.heap.size w ((wr.setCell ⟨w.heap.size, 0, none⟩ (.string ⟨(putB B a l).toArray⟩)).setCell ⟨w.heap.size, 2, none⟩ (.slice A7 k c7)) := ((HB1.out.trans (HBEL.out.mono HB1.out.size)).setCell (Nat.le_refl _) _).setCell (Nat.le_refl _) _
      have HX5 := Lib.hid g2
      have HY5 := Lib.hid g3
      have HK2 := Lib.hid k2
      have HK3 := Lib.hid k3
      have HB5 := Lib.hid (below_drewN' k4 1)
      clear g1 g2 g3 k2 k3 k4 HY2
      obtain ⟨w5, hw5⟩ : ∃ w5, ((wr.setCell ⟨w.heap.size, 0, none⟩ (.string ⟨(putB B a l).toArray⟩)).setCell ⟨w.heap.size, 2, none⟩ (.slice A7 k c7)).drew = w5 := ⟨_, rfl⟩
      have HX6 : Hid (w5.heap[w.heap.size]? = some (.cells #[.string ⟨(putB B a l).toArray⟩, .slice A2 nk c2, .slice A7 k c7] 35 (0, 0))) := by rw [← hw5]; exact HX5.out
      have HY6 : Hid (w5.heap[w.heap.size + 1]? = some (.cells #[.string ⟨#[]⟩, .slice none 0 0, .slice none 0 0] 35 (0, 0))) := by rw [← hw5]; exact HY5.out
      have HV6 : Hid (RfV (putB B a l) L (markD D a n) w5 (.string ⟨(putB B a l).toArray⟩) (.slice A2 nk c2) (.slice A7 k c7)) := by
        rw [← hw5]
        refine ⟨rfl, by rw [HNK.out]; exact HK2.out, ?_⟩
        rw [markD_length, HND.out]
        exact ownk_base HK3.out (Nat.zero_le _)
      have HB6 : Hid (Below w.heap.size w w5) := by rw [← hw5]; exact HB5.out
      rw [hw5]
      clear hw5 HX5 HY5 HK2 HK3 HB5 HOD HOW HBEL HX2
      have HO6 := Lib.hid HV6.out.ones
      have hend := ref_end HV6.out HY6.out HB6.out (Nat.le_succ _)
      go_wp2_with (first | refine wpList_load_row rfl 35 _ rfl w.heap.size rfl 35 #[.string ⟨(putB B a l).toArray⟩, .slice A2 nk c2, .slice A7 k c7] (0, 0) _ HX6.out Try.underlying35 rfl (by kernel_rfl) ?_ | refine wpList_store_row rfl 35 _ _ rfl (w.heap.size + 1) #[.string ⟨(putB B a l).toArray⟩, .slice A2 nk c2, .slice A7 k c7] rfl rfl 35 _ HY6.out (by kernel_rfl) rfl HO6.out ?_)
      refine ret_one (g := w.heap.size + 1) rfl rfl hend.2.2 Try.underlying35 rfl (by kernel_rfl) rfl ?_
      exact ⟨_, rfl, hend.1, hend.2.1⟩
end Go.Proofs.Ytagajijjcjfopaa
