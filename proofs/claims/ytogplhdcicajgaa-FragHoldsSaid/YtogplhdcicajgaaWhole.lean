/-
  frag.whole and frag.packet: whether a hole is whole, and what it has become. Every hole that can be read. No condition.
-/
import Derived.Test.YtogplhdcicajgaaBegin
import Derived.Deep.QuietTactic
namespace Go.Proofs.Ytogplhdcicajgaa
open Go.RowKit

theorem first_part {w : World} {A : Option Addr} {xs : List Value} {a b : Value} (h : Tr w 0 60 A xs) (h0 : xs[0 * 2]? = some a) (h1 : xs[0 * 2 + 1]? = some b) (ob : Obj) : ∃ g o, A = some ⟨g, o, none⟩ ∧ (w.alloc ob).cell? ⟨g, o, none⟩ = some a ∧ (w.alloc ob).cell? ⟨g, o + 1, none⟩ = some b := by
  obtain ⟨g, o, C, rfl, _, hg, q0⟩ := h _ _ h0
  obtain ⟨g', o', C', e, _, hg', q1⟩ := h _ _ h1
  injection e with e
  injection e with e1 e2
  subst e1 e2
  rw [hg] at hg'
  injection hg' with hg'
  injection hg' with e3
  subst e3
  have hx := old_alloc hg ob
  exact ⟨g, o, rfl, by rw [cell_of_row _ _ _ _ _ _ hx]; simpa using q0, by rw [cell_of_row _ _ _ _ _ _ hx]; simpa using q1⟩

set_option maxRecDepth 100000 in
set_option maxHeartbeats 4000000 in
theorem whole_any (ds : Array Value) (h : Hk) (w : World) (hh : HkT w ds.toList h) :
    Calls Try.prog 21 #[.agg ds] w fun e w' => e = .returned (.bool (wholeB h)) ∧ Below w.heap.size w w' := by
  obtain ⟨A, c, xs, _, _, _, _, k12, k13, htr, hrow, hlc, hcm, _⟩ := hh.parts
  have hok := hh.ok
  rw [Array.getElem?_toList] at k12 k13
  obtain ⟨n, hn⟩ : ∃ n, h.got.length = n := ⟨_, rfl⟩
  rw [hn] at k13 hlc
  have hn1 : n ≤ 1000 := by rw [← hn]; exact hok.2.2.2.2.2.2.1
  have HB := Lib.hid ((Below.refl w.heap.size w).alloc (Nat.le_refl _) (.cells ds 49))
  by_cases h1 : n = 1
  · subst h1
    obtain ⟨t, ht⟩ : ∃ t, h.got = [t] := List.length_eq_one_iff.1 hn
    rw [ht] at hrow
    obtain ⟨v, e0, e1, A2, c2, rfl, _⟩ := part_at hrow (k := 0) (pk := t) rfl
    obtain ⟨g, oo, rfl, q0, q1⟩ := first_part htr e0 e1 (.cells ds 49)
    have hto : t.ok := hok.2.2.2.2.2.2.2 t (by rw [ht]; exact List.mem_singleton.2 rfl)
    have HW : Hid (wholeB h = (decide (t.off = 0) && decide ((t.data.length : Int) = h.fin))) := by show _ = _; unfold wholeB; rw [ht]
    obtain ⟨m, hm⟩ : ∃ m, t.data.length = m := ⟨_, rfl⟩
    rw [hm] at HW q1
    obtain ⟨o, ho⟩ : ∃ o, t.off = o := ⟨_, rfl⟩
    rw [ho] at HW q0
    obtain ⟨f, hf⟩ : ∃ f, h.fin = f := ⟨_, rfl⟩
    rw [hf] at HW k12
    have hm3 : m ≤ 1000 := by rw [← hm]; exact hto.2.2.1
    obtain ⟨r, hrr⟩ : ∃ r, wholeB h = r := ⟨_, rfl⟩
    rw [hrr] at HW ⊢
    clear hh htr hrow hok hto ht hm ho hf hrr e0 e1
    by_cases c1 : o = 0
    · have c1' : (o == 0) = true := beqT c1
      by_cases c2 : (m : Int) = f
      · have c2' : ((m : Int) == f) = true := beqT c2
        have HV : Hid (r = true) := by show _ = _; rw [HW.out]; simp [c1, c2]
        clear c1 c2 HW
        go_enter Try.func21, Try.ntmps21
        go_wp2_with fail
        go_quiet (fail)
        rename_i nq
        have HB2 := Lib.hid (below_drewN' HB.out nq)
        go_wp2
        go_ret
        exact ⟨by rw [HV.out]; rfl, HB2.out⟩
      · have c2' : ((m : Int) == f) = false := beqF c2
        have HV : Hid (r = false) := by show _ = _; rw [HW.out]; simp [c2]
        clear c1 c2 HW
        go_enter Try.func21, Try.ntmps21
        go_wp2_with fail
        go_quiet (fail)
        rename_i nq
        have HB2 := Lib.hid (below_drewN' HB.out nq)
        go_wp2
        go_ret
        exact ⟨by rw [HV.out]; rfl, HB2.out⟩
    · have c1' : (o == 0) = false := beqF c1
      have HV : Hid (r = false) := by show _ = _; rw [HW.out]; simp [c1]
      clear c1 HW
      go_enter Try.func21, Try.ntmps21
      go_wp2_with fail
      go_quiet (fail)
      rename_i nq
      have HB2 := Lib.hid (below_drewN' HB.out nq)
      go_wp2
      go_ret
      exact ⟨by rw [HV.out]; rfl, HB2.out⟩
  · have HV : Hid (wholeB h = false) := by
      show _ = _
      unfold wholeB
      match hg : h.got with
      | [] => rfl
      | [t] => rw [hg] at hn; simp at hn; omega
      | _ :: _ :: _ => rfl
    have c1' : ((n : Int) == 1) = false := beqF (by omega)
    clear hh htr hrow hok hn h1
    go_enter Try.func21, Try.ntmps21
    go_wp2_with fail
    go_quiet (fail)
    rename_i nq
    have HB2 := Lib.hid (below_drewN' HB.out nq)
    go_wp2
    go_ret
    exact ⟨by rw [HV.out]; rfl, HB2.out⟩
end Go.Proofs.Ytogplhdcicajgaa
