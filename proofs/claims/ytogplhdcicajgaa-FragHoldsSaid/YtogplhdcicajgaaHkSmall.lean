/-
  frag.old, frag.belongs and the function value of Add: their answers, for every hole and packet that can be read. No condition.
-/
import Derived.Test.YtogplhdcicajgaaHk
import Derived.Test.YtogplhdcicajgaaSame
namespace Go.Proofs.Ytogplhdcicajgaa
open Go.RowKit

set_option maxHeartbeats 400000 in
theorem old_any (ds : Array Value) (h : Hk) (now : Nat) (w : World) (h11 : ds[11]? = some (.int .u64 (h.since : Int))) (hs : h.since < 18446744073709551616) (hn : now < 18446744073709551616) :
    Calls Try.prog 24 #[.agg ds, .int .u64 (now : Int)] w fun e w' => e = .returned (.bool (oldB h now)) ∧ Below w.heap.size w w' := by
  have HB := Lib.hid ((Below.refl w.heap.size w).alloc (Nat.le_refl _) (.cells ds 49))
  have HE : Hid (oldB h now = decide (h.since ≤ now ∧ 30 ≤ now - h.since)) := rfl
  generalize h.since = s at *
  generalize oldB h now = r at *
  by_cases c1 : s ≤ now
  · obtain ⟨d, hd⟩ : ∃ d : Nat, now = s + d := ⟨now - s, by omega⟩
    have hw : IntKind.u64.wrap ((now : Int) - (s : Int)) = (d : Int) := by
      rw [show (now : Int) - (s : Int) = (d : Int) from by omega]
      exact IntWalk.u64_in _ ⟨by omega, by omega⟩
    have HV : Hid (r = decide (30 ≤ d)) := by
      show _ = _
      rw [HE.out]
      congr 1
      apply propext
      omega
    have hc2 : (s : Int) ≤ (now : Int) := by omega
    have HD := Lib.hid hd
    have h0 : (0 : Int) ≤ (now : Int) - (s : Int) := by omega
    clear hd HE c1
    go_enter Try.func24, Try.ntmps24
    go_wp2
    go_ret
    refine ⟨?_, HB.out⟩
    rw [HV.out]
    show Ending.returned (.bool (decide ((30 : Int) ≤ (d : Int)))) = _
    have : decide ((30 : Int) ≤ (d : Int)) = decide (30 ≤ d) := by
      congr 1
      apply propext
      omega
    rw [this]
  · have hc : decide ((s : Int) ≤ (now : Int)) = false := decide_eq_false (by omega)
    have hc2 : (now : Int) < (s : Int) := by omega
    have HV : Hid (r = false) := by
      show _ = _
      rw [HE.out]
      exact decide_eq_false (by omega)
    clear c1 HE
    go_enter Try.func24, Try.ntmps24
    go_wp2
    go_ret
    exact ⟨by rw [HV.out]; rfl, HB.out⟩

set_option maxRecDepth 100000 in
set_option maxHeartbeats 4000000 in
theorem belongs_lit (cs ds : Array Value) (id id' : Nat) (proto proto' s0 s1 s2 s3 d0 d1 d2 d3 s0' s1' s2' s3' d0' d1' d2' d3' : UInt8) (r : Bool) (w : World)
    (hr : r = decide ([s0, s1, s2, s3] = [s0', s1', s2', s3'] ∧ [d0, d1, d2, d3] = [d0', d1', d2', d3'] ∧ proto = proto' ∧ id = id'))
    (g0 : cs[0]? = some (.int .u16 (id : Int))) (g4 : cs[4]? = some (.int .u8 (proto.toNat : Int))) (g5 : cs[5]? = some (.int .u8 (s0.toNat : Int))) (g6 : cs[6]? = some (.int .u8 (s1.toNat : Int))) (g7 : cs[7]? = some (.int .u8 (s2.toNat : Int))) (g8 : cs[8]? = some (.int .u8 (s3.toNat : Int)))
    (g9 : cs[9]? = some (.int .u8 (d0.toNat : Int))) (g10 : cs[10]? = some (.int .u8 (d1.toNat : Int))) (g11 : cs[11]? = some (.int .u8 (d2.toNat : Int))) (g12 : cs[12]? = some (.int .u8 (d3.toNat : Int)))
    (k0 : ds[0]? = some (.int .u8 (s0'.toNat : Int))) (k1 : ds[1]? = some (.int .u8 (s1'.toNat : Int))) (k2 : ds[2]? = some (.int .u8 (s2'.toNat : Int))) (k3 : ds[3]? = some (.int .u8 (s3'.toNat : Int)))
    (k4 : ds[4]? = some (.int .u8 (d0'.toNat : Int))) (k5 : ds[5]? = some (.int .u8 (d1'.toNat : Int))) (k6 : ds[6]? = some (.int .u8 (d2'.toNat : Int))) (k7 : ds[7]? = some (.int .u8 (d3'.toNat : Int))) (k8 : ds[8]? = some (.int .u8 (proto'.toNat : Int))) (k9 : ds[9]? = some (.int .u16 (id' : Int))) :
    Calls Try.prog 16 #[.agg cs, .agg ds] w fun e w' => e = .returned (.bool r) ∧ Below w.heap.size w w' := by
  have HB := Lib.hid (((Below.refl w.heap.size w).alloc (Nat.le_refl _) (.cells cs 27)).alloc (by simp) (.cells ds 49))
  have HE := Lib.hid hr
  clear hr
  by_cases e1 : [s0, s1, s2, s3] = [s0', s1', s2', s3']
  · have q1 := eqv_ip 9998 s0 s1 s2 s3 s0' s1' s2' s3' true (decide_eq_true e1)
    by_cases e2 : [d0, d1, d2, d3] = [d0', d1', d2', d3']
    · have q2 := eqv_ip 9998 d0 d1 d2 d3 d0' d1' d2' d3' true (decide_eq_true e2)
      by_cases e3 : proto = proto'
      · have q3 := beqT (show (proto.toNat : Int) = (proto'.toNat : Int) from by rw [e3])
        by_cases e4 : id = id'
        · have q4 := beqT (show (id : Int) = (id' : Int) by omega)
          have HV := Lib.hid (HE.out.trans (decide_eq_true ⟨e1, e2, e3, e4⟩))
          clear e1 e2 e3 e4 HE
          go_enter Try.func16, Try.ntmps16
          go_wp2
          go_ret
          exact ⟨by rw [HV.out]; rfl, HB.out⟩
        · have q4 := beqF (show ¬ (id : Int) = (id' : Int) by omega)
          have HV := Lib.hid (HE.out.trans (decide_eq_false fun h => e4 h.2.2.2))
          clear e1 e2 e3 e4 HE
          go_enter Try.func16, Try.ntmps16
          go_wp2
          go_ret
          exact ⟨by rw [HV.out]; rfl, HB.out⟩
      · have q3 := beqF (show ¬ (proto.toNat : Int) = (proto'.toNat : Int) from (fun h => e3 (UInt8.toNat_inj.1 (Int.ofNat.inj h))))
        have HV := Lib.hid (HE.out.trans (decide_eq_false fun h => e3 h.2.2.1))
        clear e1 e2 e3 HE
        go_enter Try.func16, Try.ntmps16
        go_wp2
        go_ret
        exact ⟨by rw [HV.out]; rfl, HB.out⟩
    · have q2 := eqv_ip 9998 d0 d1 d2 d3 d0' d1' d2' d3' false (decide_eq_false e2)
      have HV := Lib.hid (HE.out.trans (decide_eq_false fun h => e2 h.2.1))
      clear e1 e2 HE
      go_enter Try.func16, Try.ntmps16
      go_wp2
      go_ret
      exact ⟨by rw [HV.out]; rfl, HB.out⟩
  · have q1 := eqv_ip 9998 s0 s1 s2 s3 s0' s1' s2' s3' false (decide_eq_false e1)
    have HV := Lib.hid (HE.out.trans (decide_eq_false fun h => e1 h.1))
    clear e1 HE
    go_enter Try.func16, Try.ntmps16
    go_wp2
    go_ret
    exact ⟨by rw [HV.out]; rfl, HB.out⟩

theorem belongs_any (cs ds : Array Value) (p : Pk) (h : Hk) (lo hi : Nat) (v : Value) (w : World) (hp : PkV w lo hi cs p) (hh : ds = (hkC h v).toArray) (hok : h.ok) :
    Calls Try.prog 16 #[.agg cs, .agg ds] w fun e w' => e = .returned (.bool (belongsB p h)) ∧ Below w.heap.size w w' := by
  obtain ⟨A, c, he, hpo, _⟩ := hp
  obtain ⟨id, mr, off, ttl, proto, src, dst, data⟩ := p
  obtain ⟨src', dst', proto', id', ttl', since', fin', got'⟩ := h
  obtain ⟨_, hs, hd⟩ := hpo
  obtain ⟨_, hs', hd', _⟩ := hok
  simp only at hs hd hs' hd' he hh
  obtain ⟨s0, s1, s2, s3, rfl⟩ := four_of src hs
  obtain ⟨d0, d1, d2, d3, rfl⟩ := four_of dst hd
  obtain ⟨s0', s1', s2', s3', rfl⟩ := four_of src' hs'
  obtain ⟨d0', d1', d2', d3', rfl⟩ := four_of dst' hd'
  exact belongs_lit cs ds id id' proto proto' s0 s1 s2 s3 d0 d1 d2 d3 s0' s1' s2' s3' d0' d1' d2' d3' _ w rfl (by subst he; rfl) (by subst he; rfl) (by subst he; rfl) (by subst he; rfl) (by subst he; rfl) (by subst he; rfl) (by subst he; rfl) (by subst he; rfl) (by subst he; rfl) (by subst he; rfl)
    (by subst hh; rfl) (by subst hh; rfl) (by subst hh; rfl) (by subst hh; rfl) (by subst hh; rfl) (by subst hh; rfl) (by subst hh; rfl) (by subst hh; rfl) (by subst hh; rfl) (by subst hh; rfl)
end Go.Proofs.Ytogplhdcicajgaa
