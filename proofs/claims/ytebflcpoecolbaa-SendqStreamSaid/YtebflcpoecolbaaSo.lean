/-
  What is done with layer 18, as the laws are handed it; fits. No condition.
-/
import Derived.Test.YtebflcpoecolbaaSb
import Derived.Test.YtebflcpoecolbaaVar
namespace Go.Proofs.Ytebflcpoecolbaa
open Go.RowKit

structure Op18 where
  kind : Int
  data : List UInt8
  n : Int
  size : Int
def op18D (o : Op18) : List Dat := [.val (.int .i64 o.kind), bytesD o.data, .val (.int .i64 o.n), .val (.int .i64 o.size)]
def ok18 (o : Op18) : Prop := I64 o.kind ∧ o.data.length ≤ 140737488351232 ∧ I64 o.n ∧ I64 o.size
abbrev Sh18 : Sh := .cat (.num .i64) (.cat (.sl (.num .u8)) (.cat (.num .i64) (.cat (.num .i64) .non)))
theorem dec_op18 : Dec Sh18 op18D ok18 :=
  dec_map (dec_cat (dec_num .i64) (dec_cat dec_bytes (dec_cat (dec_num .i64) (dec_cat (dec_num .i64) dec_non)))) (fun x => ⟨x.1, x.2.1, x.2.2.1, x.2.2.2.1⟩) (fun _ _ => rfl) (fun _ h => ⟨i64_of h.1, h.2.1, i64_of h.2.2.1, i64_of h.2.2.2.1⟩)
theorem ops18_of {w : World} {cs : List Value} (h : (Sh.sl Sh18).ok w cs) : ∃ (v : Value) (l : List Op18), cs = [v] ∧ Rv w (Lt w.heap.size) v (rowsD 4 op18D l) ∧ (∀ o ∈ l, ok18 o) ∧ l.length ≤ 140737488351232 := by
  obtain ⟨l, hr, _, h2, h3⟩ := dec_sl dec_op18 (k := 4) rfl (by omega) w cs h
  rcases cs with _ | ⟨v, _ | ⟨u, cs⟩⟩
  · simp [Rvs] at hr
  · exact ⟨v, l, rfl, (rvs_cons.1 hr).1, h2, h3⟩
  · simp [Rvs] at hr
theorem op_form {w : World} {S : Nat → Prop} {cs : List Value} {o : Op18} (h : Rvs w S cs (op18D o)) : ∃ B e, cs = [.int .i64 o.kind, .slice B o.data.length e, .int .i64 o.n, .int .i64 o.size] ∧ Rv w S (.slice B o.data.length e) (bytesD o.data) := by
  obtain ⟨u0, u1, u2, u3, hcs⟩ : ∃ u0 u1 u2 u3, cs = [u0, u1, u2, u3] := by
    have := h.1
    rcases cs with _ | ⟨u0, _ | ⟨u1, _ | ⟨u2, _ | ⟨u3, _ | ⟨u4, l⟩⟩⟩⟩⟩ <;> simp [op18D] at this
    exact ⟨u0, u1, u2, u3, rfl⟩
  rw [hcs] at h
  obtain ⟨h0, h⟩ := rvs_cons.1 h
  obtain ⟨h1, h⟩ := rvs_cons.1 h
  obtain ⟨h2, h⟩ := rvs_cons.1 h
  obtain ⟨h3, -⟩ := rvs_cons.1 h
  obtain ⟨B, e, rfl, -⟩ := rv_bytes.1 h1
  exact ⟨B, e, by rw [hcs, (rv_val.1 h0).1, (rv_val.1 h2).1, (rv_val.1 h3).1], h1⟩
/-- one of what is done: its cells -/
theorem op_at {w : World} {S : Nat → Prop} {v : Value} {l : List Op18} (h : Rv w S v (rowsD 4 op18D l)) : ∃ A c, v = .slice A l.length c ∧ l.length ≤ c ∧ c ≤ maxLen ∧ ∀ (i : Nat) o, l[i]? = some o → ∃ ad B e, A = some ad ∧ Rv w S (.slice B o.data.length e) (bytesD o.data) ∧ ∀ (j : Nat) u, (#[.int .i64 o.kind, .slice B o.data.length e, .int .i64 o.n, .int .i64 o.size] : Array Value)[j]? = some u → w.cell? ((ad.add (i * 4)).add j) = some u := by
  obtain ⟨A, c, rfl, hA, hc, hm, hel⟩ := rv_elem (k := 4) (f := op18D) (fun _ _ => rfl) h
  refine ⟨A, c, rfl, hc, hm, fun i o ho => ?_⟩
  obtain ⟨ad, rfl, _, cs, hsz, hrv, hcell⟩ := hel i o ho (by omega)
  obtain ⟨u0, u1, u2, u3, hcs⟩ : ∃ u0 u1 u2 u3, cs.toList = [u0, u1, u2, u3] := by
    have := hrv.1
    rcases hc : cs.toList with _ | ⟨u0, _ | ⟨u1, _ | ⟨u2, _ | ⟨u3, _ | ⟨u4, l⟩⟩⟩⟩⟩ <;> rw [hc] at this <;> simp [op18D] at this
    exact ⟨u0, u1, u2, u3, rfl⟩
  rw [hcs] at hrv
  obtain ⟨h0, hrv⟩ := rvs_cons.1 hrv
  obtain ⟨h1, hrv⟩ := rvs_cons.1 hrv
  obtain ⟨h2, hrv⟩ := rvs_cons.1 hrv
  obtain ⟨h3, -⟩ := rvs_cons.1 hrv
  obtain ⟨B, e, rfl, -⟩ := rv_bytes.1 h1
  have e : cs = #[.int .i64 o.kind, .slice B o.data.length e, .int .i64 o.n, .int .i64 o.size] := by
    apply Array.ext'
    rw [hcs, (rv_val.1 h0).1, (rv_val.1 h2).1, (rv_val.1 h3).1]
  rw [e] at hcell
  exact ⟨ad, B, _, rfl, h1, hcell⟩
theorem four_at {w : World} {b : Nat} {v0 v1 v2 v3 : Value} {t : TypeId} {fr : Nat × Nat} (h : w.heap[b]? = some (.cells #[v0, v1, v2, v3] t fr)) : w.cell? ⟨b, 0, none⟩ = some v0 ∧ w.cell? ⟨b, 1, none⟩ = some v1 ∧ w.cell? ⟨b, 2, none⟩ = some v2 ∧ w.cell? ⟨b, 3, none⟩ = some v3 := by
  refine ⟨?_, ?_, ?_, ?_⟩ <;> rw [cell_of_row _ _ _ _ _ _ h] <;> rfl
def fitX (o : Op18) : Bool := decide (o.data.length ≤ 400)
def fitsX (l : List Op18) : Bool := l.all fitX && decide (l.length ≤ 100)
theorem fits_iff {l : List Op18} : fitsX l = true ↔ (∀ o ∈ l, o.data.length ≤ 400) ∧ l.length ≤ 100 := by
  unfold fitsX fitX
  simp
set_option maxRecDepth 100000 in
set_option maxHeartbeats 4000000 in
theorem fits_any (v : Value) (l : List Op18) (w : World) (hv : Rv w (Lt w.heap.size) v (rowsD 4 op18D l)) (hO : ∀ o ∈ l, ok18 o) (hl : l.length ≤ 140737488351232) : Calls Try.prog 9 #[v] w fun e w' => e = .returned (.bool (fitsX l)) ∧ Below w.heap.size w w' := by
  have HV0 := Lib.hid hv
  obtain ⟨A, c, rfl, hnc, hcm, -⟩ := op_at hv
  obtain ⟨m, hm⟩ : ∃ m, l.length = m := ⟨_, rfl⟩
  rw [hm] at HV0 hnc hl ⊢
  have HM := Lib.hid hm
  have HO := Lib.hid hO
  have hcm2 : c ≤ 9223372036854775807 := by unfold maxLen at hcm; omega
  clear hv hm hO hcm
  go_enter Try.func9, Try.ntmps9
  go_wp2
  go_loopw [7] (fun t7 wr => ∃ i : Nat, i ≤ m ∧ t7 = .int .i64 (i : Int) ∧ Hid (∀ o ∈ l.take i, o.data.length ≤ 400) ∧ Hid (Below w.heap.size w wr)) (fun t7 _ => m - (intOf t7).toNat)
  case atStart => exact ⟨0, Nat.zero_le _, rfl, Lib.hid (by simp), Lib.hid (Below.refl _ _)⟩
  case round =>
    obtain ⟨i, hi, rfl, HF, HB⟩ := hrel
    by_cases hlt : i < m
    · obtain ⟨o, ho⟩ : ∃ o, l[i]? = some o := ⟨_, List.getElem?_eq_getElem (by rw [HM.out]; exact hlt)⟩
      have HVR : Rv wr (Lt w.heap.size) (.slice A m c) (rowsD 4 op18D l) := HV0.out.kept HB.out fun _ h => h
      obtain ⟨A', c', e, -, -, hel⟩ := op_at HVR
      rw [HM.out] at e
      injection e with e1 _ e3
      subst e1 e3
      obtain ⟨ad, B, eb, rfl, hrb, hcl⟩ := hel i o ho
      have HKC := Lib.hid hcl
      have hod := (HO.out o (List.mem_of_getElem? ho)).2.1
      have HSN : Hid (l.take (i + 1) = l.take i ++ [o]) := by
        show _ = _
        rw [List.take_add_one, ho]
        rfl
      have HMO := Lib.hid (List.mem_of_getElem? ho)
      obtain ⟨k, hk⟩ : ∃ k, o.data.length = k := ⟨_, rfl⟩
      rw [hk] at HKC hod
      have HK := Lib.hid hk
      clear HVR hel hrb hcl ho hk
      obtain ⟨w5, hw5⟩ : ∃ w5, wr.alloc (.cells #[.int .i64 o.kind, .slice B k eb, .int .i64 o.n, .int .i64 o.size] 33) = w5 := ⟨_, rfl⟩
      have HX5 : Hid (w5.heap[wr.heap.size]? = some (.cells #[.int .i64 o.kind, .slice B k eb, .int .i64 o.n, .int .i64 o.size] 33 (0, 0))) := by rw [← hw5]; exact heap_alloc_new wr _
      have HB5 : Hid (Below w.heap.size w w5) := by rw [← hw5]; exact HB.out.alloc HB.out.size _
      have HW5 := Lib.hid hw5
      clear hw5
      go_upto_region 4 with (first | (refine wpList_load_atA rfl 33 _ rfl (ad.add (i * 4)) rfl #[.int .i64 o.kind, .slice B k eb, .int .i64 o.n, .int .i64 o.size] _ HKC.out Try.underlying33 rfl (by kernel_rfl) ?_) | (refine wpList_store_new rfl 33 _ _ rfl wr #[.int .i64 0, .slice none 0 0, .int .i64 0, .int .i64 0] #[.int .i64 o.kind, .slice B k eb, .int .i64 o.n, .int .i64 o.size] rfl rfl (by kernel_rfl) rfl (by simp [Value.oneCell']) ?_) | go_in)
      rw [HW5.out]
      clear HW5 HKC
      obtain ⟨c0, c1, c2, c3⟩ := four_at HX5.out
      by_cases h400 : 400 < k
      · have h400b : (400 : Int) < (k : Int) := by omega
        have HFX : Hid (fitsX l = false) := by
          show _ = _
          rw [Bool.eq_false_iff]
          intro h
          have := (fits_iff.1 h).1 o HMO.out
          rw [HK.out] at this
          omega
        go_wp2
        go_ret
        exact ⟨by rw [HFX.out]; rfl, HB5.out⟩
      · have h400b : ¬ (400 : Int) < (k : Int) := by omega
        have HF2 : Hid (∀ o ∈ l.take (i + 1), o.data.length ≤ 400) := by
          intro p hp
          rw [HSN.out] at hp
          rcases List.mem_append.1 hp with hp | hp
          · exact HF.out p hp
          · simp at hp
            rw [hp, HK.out]
            omega
        go_wp2
        go_roundw
        case rel => exact ⟨i + 1, by omega, by go_num, HF2, HB5⟩
        case measure => simp [intOf]; omega
    · obtain rfl : i = m := by omega
      have HFX : Hid (fitsX l = decide (i ≤ 100)) := by
        show _ = _
        unfold fitsX
        rw [HM.out]
        have : l.all fitX = true := List.all_eq_true.2 fun o ho => by
          unfold fitX
          have h2 := HF.out o (by rw [List.take_of_length_le (Nat.le_of_eq HM.out)]; exact ho)
          simpa using h2
        rw [this, Bool.true_and]
      by_cases h60 : i ≤ 100
      · have h60b : (i : Int) ≤ 100 := by omega
        go_wp2
        go_ret
        exact ⟨by rw [HFX.out, decide_eq_true h60]; rfl, HB.out⟩
      · have h60b : ¬ (i : Int) ≤ 100 := by omega
        go_wp2
        go_ret
        exact ⟨by rw [HFX.out, decide_eq_false h60]; rfl, HB.out⟩
end Go.Proofs.Ytebflcpoecolbaa
