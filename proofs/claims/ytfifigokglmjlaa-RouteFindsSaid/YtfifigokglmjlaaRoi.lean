/-
  route.Del. Every right slice of routes, every address, every number of bits.
-/
import Derived.Test.YtfifigokglmjlaaRoe
import Derived.Test.YtfifigokglmjlaaDlR
import Derived.Test.YtfifigokglmjlaaRom
namespace Go.Proofs.Ytfifigokglmjlaa
open Go.RowKit

theorem idxV_cases {α : Type} (f : α → Bool) (l : List α) : (idxV f l = -1 ∧ l.findIdx? f = none) ∨ ∃ i : Nat, idxV f l = (i : Int) ∧ i < l.length ∧ l.findIdx? f = some i := by
  unfold idxV
  cases h : l.findIdx? f with
  | none => exact .inl ⟨rfl, rfl⟩
  | some i => exact .inr ⟨i, rfl, (List.findIdx?_eq_some_iff_getElem.1 h).1, rfl⟩
theorem rows_erase {α : Type} {f : α → Array Value} {k : Nat} (E : El f k) (K : List α) (i : Nat) : (rowsOf f K).take (i * k) ++ (rowsOf f K).drop (i * k + k) = rowsOf f (K.eraseIdx i) := by
  rw [List.eraseIdx_eq_take_drop_succ, rows_append, rows_take E, ← rows_drop E, show (i + 1) * k = i * k + k from Nat.add_one_mul _ _]
set_option maxRecDepth 100000 in
set_option maxHeartbeats 4000000 in
theorem del_any (v : Value) (K : List Ro) (net : Ip) (bits : Int) (w : World) (hv : RoT w v K) (hK : rightX K = true) (_hb : I64 bits) :
    Calls Try.prog 8 #[v, .agg (ipA net), .int .i64 bits] w fun e w' => ∃ v', e = .returned (.tuple #[v', .int .i64 (delX K net bits).2]) ∧ RoT w' v' (delX K net bits).1 ∧ Below w.heap.size w w' := by
  have hl8 := right_len hK
  obtain ⟨A, c, rfl, htr, hA, hnc, hcm⟩ := hv
  obtain ⟨n, hnn⟩ : ∃ n, K.length = n := ⟨_, rfl⟩
  obtain ⟨w1, hw1⟩ : ∃ w1, w.alloc (.cells (ipA net) 26) = w1 := ⟨_, rfl⟩
  have HB1 : Hid (Below w.heap.size w w1) := by rw [← hw1]; exact (Below.refl _ _).alloc (Nat.le_refl _) _
  have HX0 : Hid (w1.heap[w.heap.size]? = some (.cells (ipA net) 26 (0, 0))) := by rw [← hw1]; exact heap_alloc_new w _
  have HW := Lib.hid hw1
  have HCL := Lib.hid (clR_any A (rowsOf roA K) n c 0 w1.heap.size w1 (htr.below HB1.out (Nat.le_refl _)).rd (Nat.le_refl _) (by rw [rows_length roE, hnn]) (rows_ones roE K) hA (by omega))
  have HPL : Hid (∀ (w2 : World) (v2 : Value), w2.ownsRow w1.heap.size 28 9 v2 n (rowsOf roA K) → Calls Try.prog 19 #[v2, .agg (ipA net), .int .i64 bits] w2 fun e w' => e = .returned (.int .i64 (idxV (isR net bits) K)) ∧ Below w2.heap.size w2 w') := fun w2 v2 ho => place_any v2 K net bits w2 (SlT.own (by rw [hnn]; exact ho)) (by omega)
  have HST : Hid ((ipA net).size = 4) := ipE.size _
  have HN := Lib.hid hnn
  rw [hnn] at hl8 hnc ⊢
  obtain ⟨CT, hCT⟩ : ∃ CT, ipA net = CT := ⟨_, rfl⟩
  rw [hCT] at HX0 HW HPL HST ⊢
  obtain ⟨L, hL⟩ : ∃ L, w1.heap.size = L := ⟨_, rfl⟩
  rw [hL] at HCL HPL
  have HLL := Lib.hid hL
  have HLX : Hid (w.heap.size ≤ L) := by show _ ≤ _; rw [← hL]; exact HB1.out.size
  clear hnn htr hcm hA hw1 hCT hL
  rcases idxV_cases (isR net bits) K with ⟨hi, hf⟩ | ⟨i, hi, hin, hf⟩
  · have HV : Hid (delX K net bits = (K, 2)) := by show _ = _; unfold delX; rw [hf]
    rw [hi] at HPL
    clear hi hf
    go_enter Try.func8, Try.ntmps8
    go_upto_region 1 with (fail)
    change Code.wp _ _ _ _ (w.alloc (.cells CT 26))
    rw [HW.out]
    clear HW
    go_wp2_with fail
    refine HCL.out.mono ?_
    rintro e w2 ⟨v2, rfl, ho, hb2⟩
    have HO2 := Lib.hid ho
    have HX2 := Lib.hid (old_below HX0.out hb2 (by rw [← HLL.out]; exact row_lt HX0.out))
    have HB2 := Lib.hid (HB1.out.trans (hb2.mono (by rw [← HLL.out]; exact HB1.out.size)))
    have HP2 := Lib.hid (HPL.out w2 v2 ho)
    clear ho hb2 HCL HPL
    go_wp2_with (refine wpList_load_row rfl 26 _ rfl w.heap.size rfl 26 CT (0, 0) _ HX2.out Try.underlying26 rfl (by rw [HST.out]; kernel_rfl) ?_)
    refine HP2.out.mono ?_
    rintro e w3 ⟨rfl, hb3⟩
    have HO3 := Lib.hid (ownk_below HO2.out hb3 (Nat.le_refl _))
    have HB3 := Lib.hid (HB2.out.trans (hb3.mono HB2.out.size))
    clear hb3 HP2
    go_wp2
    refine ret_tmp2 rfl rfl ?_
    rw [HV.out]
    exact ⟨v2, rfl, SlT.own (by rw [HN.out]; exact HO3.out), HB3.out⟩
  · have HV : Hid (delX K net bits = (K.eraseIdx i, 0)) := by show _ = _; unfold delX; rw [hf]
    rw [HN.out] at hin
    obtain ⟨q, hq⟩ : ∃ q, n = q + 1 := ⟨n - 1, by omega⟩
    subst hq
    have HEL : Hid ((K.eraseIdx i).length = q) := by
      have := HN.out
      show _ = _
      rw [List.length_eraseIdx, if_pos (by omega)]
      omega
    have HI := Lib.hid hi
    rw [hi] at HPL
    have hi0 : ¬ (i : Int) < 0 := by omega
    clear hi hf
    go_enter Try.func8, Try.ntmps8
    go_upto_region 1 with (fail)
    change Code.wp _ _ _ _ (w.alloc (.cells CT 26))
    rw [HW.out]
    clear HW
    go_wp2_with fail
    refine HCL.out.mono ?_
    rintro e w2 ⟨v2, rfl, ho, hb2⟩
    have HO2 := Lib.hid ho
    have HX2 := Lib.hid (old_below HX0.out hb2 (by rw [← HLL.out]; exact row_lt HX0.out))
    have HB2 := Lib.hid (HB1.out.trans (hb2.mono (by rw [← HLL.out]; exact HB1.out.size)))
    have HP2 := Lib.hid (HPL.out w2 v2 ho)
    clear hb2 HCL HPL
    obtain ⟨g, c2, cur, rfl, hlo, -, -, -, -, -⟩ := ownk_some ho (by omega)
    have HGL := Lib.hid hlo
    clear ho hlo
    go_wp2_with (refine wpList_load_row rfl 26 _ rfl w.heap.size rfl 26 CT (0, 0) _ HX2.out Try.underlying26 rfl (by rw [HST.out]; kernel_rfl) ?_)
    refine HP2.out.mono ?_
    rintro e w3 ⟨rfl, hb3⟩
    have HO3 := Lib.hid (ownk_below HO2.out hb3 (Nat.le_refl _))
    have HB3 := Lib.hid (HB2.out.trans (hb3.mono HB2.out.size))
    have HD := Lib.hid (dlR_any g q c2 i L (rowsOf roA K) w3 HO3.out (rows_ones roE K) (by omega) (by omega))
    clear hb3 HP2
    go_wp2_with fail
    refine HD.out.mono ?_
    rintro e w4 ⟨rfl, ho4, hg4⟩
    have HO4 := Lib.hid ho4
    have HB4 : Hid (Below w.heap.size w w4) := HB3.out.trans (below_grown (v := .slice (some ⟨g, 0, none⟩) (q + 1) c2) hg4 HB3.out.size (fun k hk => by have hk : some g = some k := hk; injection hk with hk; have := HGL.out; have := HLX.out; omega))
    clear ho4 hg4 HD
    go_wp2
    refine ret_tmp2 rfl rfl ?_
    rw [HV.out]
    refine ⟨_, rfl, SlT.own (e := 28) (base := L) (k := 9) ?_, HB4.out⟩
    rw [HEL.out, ← rows_erase roE]
    exact HO4.out
end Go.Proofs.Ytfifigokglmjlaa
