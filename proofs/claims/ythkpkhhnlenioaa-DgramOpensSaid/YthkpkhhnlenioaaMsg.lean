/-
  dgram.pair, word, long, bytes.Equal, sameEcho, sameDatagram, same, Same: their answers, for all that can be read; Echoes and Datagrams as values. No condition.
-/
import Derived.Test.YthkpkhhnlenioaaBytes
import Derived.Test.YthkpkhhnlenioaaDg
import Derived.Test.YthkpkhhnlenioaaGet
namespace Go.Proofs.Ythkpkhhnlenioaa
open Go.RowKit

/-- an Echo, a Datagram as cells -/
def EcC (w : World) (lo hi : Nat) (cs : Array Value) (x : Ec) : Prop := ∃ A c, cs = #[.bool x.reply, .int .u16 (x.id : Int), .int .u16 (x.seq : Int), .slice A x.data.length c] ∧ x.ok ∧ Rd w lo hi A (cells x.data) ∧ x.data.length ≤ c ∧ c ≤ maxLen ∧ (A = none → c = 0)
def DgC (w : World) (lo hi : Nat) (cs : Array Value) (x : Dg) : Prop := ∃ A c, cs = #[.int .u16 (x.src : Int), .int .u16 (x.dst : Int), .slice A x.data.length c] ∧ x.ok ∧ Rd w lo hi A (cells x.data) ∧ x.data.length ≤ c ∧ c ≤ maxLen ∧ (A = none → c = 0)
section
variable {w w' : World} {lo hi : Nat} {cs : Array Value}
theorem EcC.below {x : Ec} {B : Nat} (h : EcC w lo hi cs x) (hb : Below B w w') (hB : hi ≤ B) : EcC w' lo hi cs x := by
  obtain ⟨A, c, h1, h2, h3, h4⟩ := h
  exact ⟨A, c, h1, h2, h3.below hb hB, h4⟩
theorem DgC.below {x : Dg} {B : Nat} (h : DgC w lo hi cs x) (hb : Below B w w') (hB : hi ≤ B) : DgC w' lo hi cs x := by
  obtain ⟨A, c, h1, h2, h3, h4⟩ := h
  exact ⟨A, c, h1, h2, h3.below hb hB, h4⟩
theorem EcC.wide {x : Ec} {lo' hi' : Nat} (h : EcC w lo hi cs x) (h1 : lo' ≤ lo) (h2 : hi ≤ hi') : EcC w lo' hi' cs x := by
  obtain ⟨A, c, h3, h4, h5, h6⟩ := h
  exact ⟨A, c, h3, h4, h5.wide h1 h2, h6⟩
theorem DgC.wide {x : Dg} {lo' hi' : Nat} (h : DgC w lo hi cs x) (h1 : lo' ≤ lo) (h2 : hi ≤ hi') : DgC w lo' hi' cs x := by
  obtain ⟨A, c, h3, h4, h5, h6⟩ := h
  exact ⟨A, c, h3, h4, h5.wide h1 h2, h6⟩
end
theorem dpair_any (n : Nat) (w : World) (hn : n < 65536) : Calls Try.prog 40 #[.int .u16 n] w (FreshPost w (two n)) := by
  have HP := Lib.hid (put_ok n 2 w (by omega) (by omega) (by omega) (fun h => by have := (bitLen_gt n 2 (by omega)).1 h; omega))
  have H2 : Hid (putL n 2 = two n) := by
    show [UInt8.ofNat (n / 2 ^ (8 * 1)), UInt8.ofNat (n / 2 ^ (8 * 0))] = two n
    simp [two]
  go_enter Try.func40, Try.ntmps40
  go_wp2_with fail
  refine HP.out.mono ?_
  rw [H2.out]
  rintro e w1 ⟨rfl, hr, hb⟩
  have HR := Lib.hid (Rd.own hr)
  have HB := Lib.hid hb
  clear hr hb
  go_wp2
  go_ret
  exact ⟨_, rfl, ⟨some ⟨w.heap.size, 0, none⟩, 2, rfl, HR.out, (fun h => by cases h), Nat.le_refl _, (by unfold maxLen; simp)⟩, HB.out⟩
theorem dword_any (A : Option Addr) (x y : UInt8) (c lo hi : Nat) (w : World) (h : Rd w lo hi A (cells [x, y])) :
    Calls Try.prog 31 #[.slice A 2 c] w fun e w' => e = .returned (.int .u16 ((256 * x.toNat + y.toNat : Nat) : Int)) ∧ w = w' := by
  have HG := Lib.hid (get_any A [x, y] c lo hi w h (by unfold maxLen; simp))
  have HV : Hid ((getS [x, y]).1 = 256 * x.toNat + y.toNat) := by
    show _ = _
    simp [getS, getV]
    try omega
  clear h
  go_enter Try.func31, Try.ntmps31
  go_wp2_with fail
  refine HG.out.mono ?_
  rintro e w1 ⟨rfl, rfl⟩
  rw [HV.out]
  have hx := x.toNat_lt
  have hy := y.toNat_lt
  go_wp2
  go_ret
  refine ⟨?_, rfl⟩
  show Ending.returned (.int .u16 (256 * (x.toNat : Int) + (y.toNat : Int))) = _
  congr 2
theorem long_any (A : Option Addr) (n c : Nat) (w : World) (hm : n ≤ 9223372036854775807) : Calls Try.prog 38 #[.slice A n c] w fun e w' => e = .returned (.bool (decide (992 < n))) ∧ w = w' := by
  go_enter Try.func38, Try.ntmps38
  go_wp2
  go_ret
  refine ⟨?_, rfl⟩
  show Ending.returned (.bool (decide ((992 : Int) < (n : Int)))) = _
  rw [show decide ((992 : Int) < (n : Int)) = decide (992 < n) from by congr 1; apply propext; omega]
theorem equal_any (A A' : Option Addr) (l l' : List UInt8) (n n' c c' lo hi lo' hi' : Nat) (w : World) (hr : Rd w lo hi A (cells l)) (hr' : Rd w lo' hi' A' (cells l')) (hn : l.length = n) (hn' : l'.length = n') :
    Calls Try.prog 45 #[.slice A n c, .slice A' n' c'] w fun e w' => e = .returned (.bool (decide (l = l'))) ∧ w = w' := by
  have ht1 := run_text (P := Try.prog) _ 23 9 5 c Try.underlying23 Try.underlying5 Try.underlying9 hr
  have ht2 := run_text (P := Try.prog) _ 23 9 5 c' Try.underlying23 Try.underlying5 Try.underlying9 hr'
  rw [hn] at ht1
  rw [hn'] at ht2
  clear hr hr' hn hn'
  obtain ⟨r, hr⟩ : ∃ r, decide (l = l') = r := ⟨_, rfl⟩
  rw [hr]
  by_cases e8 : l = l'
  · rw [decide_eq_true e8] at hr
    subst e8 hr
    go_enter Try.func45, Try.ntmps45
    go_wp2
    go_ret
    exact ⟨rfl, rfl⟩
  · rw [decide_eq_false e8] at hr
    subst hr
    obtain ⟨q8, q9⟩ := texts_ne e8
    clear e8
    go_enter Try.func45, Try.ntmps45
    go_wp2
    go_ret
    exact ⟨rfl, rfl⟩
def ecEq (x y : Ec) : Bool := decide (x.reply = y.reply ∧ x.id = y.id ∧ x.seq = y.seq ∧ x.data = y.data)
def dgEq (x y : Dg) : Bool := decide (x.src = y.src ∧ x.dst = y.dst ∧ x.data = y.data)
theorem ecEq_self (x : Ec) : ecEq x x = true := decide_eq_true ⟨rfl, rfl, rfl, rfl⟩
theorem dgEq_self (x : Dg) : dgEq x x = true := decide_eq_true ⟨rfl, rfl, rfl⟩
set_option maxRecDepth 100000 in
set_option maxHeartbeats 4000000 in
theorem sameec_any (cs ds : Array Value) (x y : Ec) (lo hi lo' hi' : Nat) (w : World) (hx : EcC w lo hi cs x) (hy : EcC w lo' hi' ds y) (hhi : hi ≤ w.heap.size) (hhi' : hi' ≤ w.heap.size) :
    Calls Try.prog 34 #[.agg cs, .agg ds] w fun e w' => e = .returned (.bool (ecEq x y)) ∧ Below w.heap.size w w' := by
  obtain ⟨A, c, rfl, _, hr, _⟩ := hx
  obtain ⟨A', c', rfl, _, hr', _⟩ := hy
  have HB := Lib.hid (((Below.refl w.heap.size w).alloc (Nat.le_refl _) (.cells #[.bool x.reply, .int .u16 (x.id : Int), .int .u16 (x.seq : Int), .slice A x.data.length c] 25)).alloc (by simp) (.cells #[.bool y.reply, .int .u16 (y.id : Int), .int .u16 (y.seq : Int), .slice A' y.data.length c'] 25))
  have he := Lib.hid (equal_any A A' x.data y.data x.data.length y.data.length c c' lo hi lo' hi' _ ((hr.alloc hhi (.cells #[.bool x.reply, .int .u16 (x.id : Int), .int .u16 (x.seq : Int), .slice A x.data.length c] 25)).alloc (by simp; omega) (.cells #[.bool y.reply, .int .u16 (y.id : Int), .int .u16 (y.seq : Int), .slice A' y.data.length c'] 25)) ((hr'.alloc hhi' (.cells #[.bool x.reply, .int .u16 (x.id : Int), .int .u16 (x.seq : Int), .slice A x.data.length c] 25)).alloc (by simp; omega) (.cells #[.bool y.reply, .int .u16 (y.id : Int), .int .u16 (y.seq : Int), .slice A' y.data.length c'] 25)) rfl rfl)
  clear hr hr' hhi hhi'
  obtain ⟨xr, xi, xs, xd⟩ := x
  obtain ⟨yr, yi, ys, yd⟩ := y
  simp only at *
  obtain ⟨r, hr⟩ : ∃ r, ecEq ⟨xr, xi, xs, xd⟩ ⟨yr, yi, ys, yd⟩ = r := ⟨_, rfl⟩
  have hr2 : decide (xr = yr ∧ xi = yi ∧ xs = ys ∧ xd = yd) = r := hr
  rw [hr]
  generalize xd.length = n at *
  generalize yd.length = n' at *
  clear hr
  by_cases e1 : xr = yr
  · have q1 : (xr == yr) = true := by simp [e1]
    by_cases e2 : xi = yi
    · have q2 := beqT (show (xi : Int) = (yi : Int) by omega)
      by_cases e3 : xs = ys
      · have q3 := beqT (show (xs : Int) = (ys : Int) by omega)
        have HV : Hid (decide (xd = yd) = r) := by show _ = _; rw [← hr2]; simp [e1, e2, e3]
        clear hr2 e1 e2 e3
        go_enter Try.func34, Try.ntmps34
        go_wp2_with fail
        refine he.out.mono ?_
        rintro e w1 ⟨rfl, rfl⟩
        rw [HV.out]
        go_wp2
        go_ret
        exact ⟨rfl, HB.out⟩
      · have q3 := beqF (show ¬ (xs : Int) = (ys : Int) by omega)
        rw [decide_eq_false fun h => e3 h.2.2.1] at hr2
        subst hr2
        clear e1 e2 e3
        go_enter Try.func34, Try.ntmps34
        go_wp2
        go_ret
        exact ⟨rfl, HB.out⟩
    · have q2 := beqF (show ¬ (xi : Int) = (yi : Int) by omega)
      rw [decide_eq_false fun h => e2 h.2.1] at hr2
      subst hr2
      clear e1 e2
      go_enter Try.func34, Try.ntmps34
      go_wp2
      go_ret
      exact ⟨rfl, HB.out⟩
  · have q1 : (xr == yr) = false := by simp [e1]
    rw [decide_eq_false fun h => e1 h.1] at hr2
    subst hr2
    clear e1
    go_enter Try.func34, Try.ntmps34
    go_wp2
    go_ret
    exact ⟨rfl, HB.out⟩
set_option maxRecDepth 100000 in
set_option maxHeartbeats 4000000 in
theorem samedg_any (cs ds : Array Value) (x y : Dg) (lo hi lo' hi' : Nat) (w : World) (hx : DgC w lo hi cs x) (hy : DgC w lo' hi' ds y) (hhi : hi ≤ w.heap.size) (hhi' : hi' ≤ w.heap.size) :
    Calls Try.prog 35 #[.agg cs, .agg ds] w fun e w' => e = .returned (.bool (dgEq x y)) ∧ Below w.heap.size w w' := by
  obtain ⟨A, c, rfl, _, hr, _⟩ := hx
  obtain ⟨A', c', rfl, _, hr', _⟩ := hy
  have HB := Lib.hid (((Below.refl w.heap.size w).alloc (Nat.le_refl _) (.cells #[.int .u16 (x.src : Int), .int .u16 (x.dst : Int), .slice A x.data.length c] 43)).alloc (by simp) (.cells #[.int .u16 (y.src : Int), .int .u16 (y.dst : Int), .slice A' y.data.length c'] 43))
  have he := Lib.hid (equal_any A A' x.data y.data x.data.length y.data.length c c' lo hi lo' hi' _ ((hr.alloc hhi (.cells #[.int .u16 (x.src : Int), .int .u16 (x.dst : Int), .slice A x.data.length c] 43)).alloc (by simp; omega) (.cells #[.int .u16 (y.src : Int), .int .u16 (y.dst : Int), .slice A' y.data.length c'] 43)) ((hr'.alloc hhi' (.cells #[.int .u16 (x.src : Int), .int .u16 (x.dst : Int), .slice A x.data.length c] 43)).alloc (by simp; omega) (.cells #[.int .u16 (y.src : Int), .int .u16 (y.dst : Int), .slice A' y.data.length c'] 43)) rfl rfl)
  clear hr hr' hhi hhi'
  obtain ⟨xi, xs, xd⟩ := x
  obtain ⟨yi, ys, yd⟩ := y
  simp only at *
  obtain ⟨r, hr⟩ : ∃ r, dgEq ⟨xi, xs, xd⟩ ⟨yi, ys, yd⟩ = r := ⟨_, rfl⟩
  have hr2 : decide (xi = yi ∧ xs = ys ∧ xd = yd) = r := hr
  rw [hr]
  generalize xd.length = n at *
  generalize yd.length = n' at *
  clear hr
  by_cases e2 : xi = yi
  · have q2 := beqT (show (xi : Int) = (yi : Int) by omega)
    by_cases e3 : xs = ys
    · have q3 := beqT (show (xs : Int) = (ys : Int) by omega)
      have HV : Hid (decide (xd = yd) = r) := by show _ = _; rw [← hr2]; simp [e2, e3]
      clear hr2 e2 e3
      go_enter Try.func35, Try.ntmps35
      go_wp2_with fail
      refine he.out.mono ?_
      rintro e w1 ⟨rfl, rfl⟩
      rw [HV.out]
      go_wp2
      go_ret
      exact ⟨rfl, HB.out⟩
    · have q3 := beqF (show ¬ (xs : Int) = (ys : Int) by omega)
      rw [decide_eq_false fun h => e3 h.2.1] at hr2
      subst hr2
      clear e2 e3
      go_enter Try.func35, Try.ntmps35
      go_wp2
      go_ret
      exact ⟨rfl, HB.out⟩
  · have q2 := beqF (show ¬ (xi : Int) = (yi : Int) by omega)
    rw [decide_eq_false fun h => e2 h.1] at hr2
    subst hr2
    clear e2
    go_enter Try.func35, Try.ntmps35
    go_wp2
    go_ret
    exact ⟨rfl, HB.out⟩
end Go.Proofs.Ythkpkhhnlenioaa
