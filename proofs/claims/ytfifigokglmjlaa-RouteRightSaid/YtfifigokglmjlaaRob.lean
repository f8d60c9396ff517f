/-
  bytes.Compare of two hosts' addresses; route.ahead. Every two addresses, every two routes.
-/
import Derived.Test.YtfifigokglmjlaaRoa
import Derived.Test.YtfifigokglmjlaaWiR
import Derived.Lib.BytesEntry
namespace Go.Proofs.Ytfifigokglmjlaa
open Go.RowKit

def cmpX (a c : Ip) : Int := Lib.compareBytes a.bytes c.bytes
theorem cmp_num (a c : Ip) : (cmpX a c < 0) = (a.num < c.num) := by
  obtain ⟨x0, x1, x2, x3⟩ := a
  obtain ⟨y0, y1, y2, y3⟩ := c
  unfold cmpX Ip.bytes Ip.num
  simp only [Lib.compareBytes, UInt8.lt_iff_toNat_lt]
  have h0 := x0.toNat_lt
  have h1 := x1.toNat_lt
  have h2 := x2.toNat_lt
  have h3 := x3.toNat_lt
  have k0 := y0.toNat_lt
  have k1 := y1.toNat_lt
  have k2 := y2.toNat_lt
  have k3 := y3.toNat_lt
  rw [eq_iff_iff]
  repeat' split
  all_goals omega
theorem lib_bytes (l : List UInt8) : Lib.bytesOf (l.map fun c => (c.toNat : Int)) = l := by
  unfold Lib.bytesOf
  rw [List.map_map]
  conv => rhs; rw [← List.map_id l]
  refine List.map_congr_left fun x _ => ?_
  simp
theorem load_ipb (a : Ip) (p : Addr) (n c : Nat) (w : World) (hn : n = 4) (hp : ∀ (j : Nat) v, (ipA a)[j]? = some v → w.cell? (p.add j) = some v) : (Extern.Bytes.bytesOf (.slice (some p) n c)).run Try.prog w = .ok ⟨a.bytes.toArray⟩ w := by
  subst hn
  have := Lib.run_loadBytesX (P := Try.prog) w (a.bytes.map fun c => (c.toNat : Int)) p .empty (fun j x hj => hp j _ (by
    rw [List.getElem?_map] at hj
    obtain ⟨u, hu, rfl⟩ := Option.map_eq_some_iff.1 hj
    rw [show ipA a = (a.bytes.map fun c => Value.int .u8 (c.toNat : Int)).toArray from rfl]
    simp [hu]))
  rw [lib_bytes] at this
  have he : (⟨ByteArray.empty.data ++ a.bytes.toArray⟩ : ByteArray) = ⟨a.bytes.toArray⟩ := by
    apply ByteArray.ext
    show (#[] : Array UInt8) ++ a.bytes.toArray = a.bytes.toArray
    simp
  rw [he] at this
  exact this
theorem bcompare_any (a c : Ip) (p q : Addr) (w : World) (hp : ∀ (j : Nat) v, (ipA a)[j]? = some v → w.cell? (p.add j) = some v) (hq : ∀ (j : Nat) v, (ipA c)[j]? = some v → w.cell? (q.add j) = some v) :
    Calls Try.prog 35 #[.slice (some p) 4 4, .slice (some q) 4 4] w fun e w' => e = .returned (.int .i64 (cmpX a c)) ∧ Below w.heap.size w w' := by
  have hov : (callFunc 38 #[.slice (some p) 4 4, .slice (some q) 4 4]).run Try.prog w = .ok (.value (.int .i64 (cmpX a c))) w := by
    rw [run_callFunc_extern Try.func38 (by kernel_rfl) (by kernel_rfl) (by kernel_rfl) (e := Extern.BytealgCompare.compare) (by kernel_rfl)]
    have h1 := load_ipb a p 4 4 w rfl hp
    have h2 := load_ipb c q 4 4 w rfl hq
    have h3 : (Extern.BytealgCompare.compare #[.slice (some p) 4 4, .slice (some q) 4 4]).run Try.prog w = .ok (.int .i64 (cmpX a c)) w := by
      change Sem.run Try.prog (do pure (goInt (Extern.BytealgCompare.cmp (← Extern.Bytes.bytesOf (.slice (some p) 4 4)) (← Extern.Bytes.bytesOf (.slice (some q) 4 4))))) w = _
      simp only [Sem.run_bind, Sem.run_pure, h1, h2, Result.andThen]
      rw [Lib.cmp_eq]
      rfl
    rw [h3]
    rfl
  generalize cmpX a c = z at hov ⊢
  clear hp hq
  go_enter Try.func35, Try.ntmps35
  go_wp2_with (simp only [hov])
  go_ret
  exact ⟨rfl, Below.refl _ _⟩

set_option maxRecDepth 100000 in
set_option maxHeartbeats 4000000 in
theorem ahead_any (a b : Ro) (w : World) : Calls Try.prog 27 #[.agg (roA a), .agg (roA b)] w fun e w' => e = .returned (.bool (firstX a b)) ∧ Below w.heap.size w w' := by
  obtain ⟨w1, hw1⟩ : ∃ w1, (w.alloc (.cells (roA a) 28)).alloc (.cells (roA b) 28) = w1 := ⟨_, rfl⟩
  have HB1 : Hid (Below w.heap.size w w1) := by rw [← hw1]; exact ((Below.refl _ _).alloc (Nat.le_refl _) _).alloc (by simp) _
  have HX0 : Hid (w1.heap[w.heap.size]? = some (.cells (roA a) 28 (0, 0))) := by rw [← hw1]; exact old_alloc (heap_alloc_new w _) _
  have HX1 : Hid (w1.heap[w.heap.size + 1]? = some (.cells (roA b) 28 (0, 0))) := by rw [← hw1]; exact new_at1 w _ _
  have HW := Lib.hid hw1
  have HV : Hid (firstX a b = decide (b.bits < a.bits ∨ a.bits = b.bits ∧ a.net.num < b.net.num)) := rfl
  have KA := Lib.hid (var_all HX0.out)
  have KB := Lib.hid (var_all HX1.out)
  have c4 : w1.cell? ⟨w.heap.size, 4, none⟩ = some (.int .i64 a.bits) := (cell_of_row _ _ _ _ _ _ HX0.out).trans (roA_bits a)
  have d4 : w1.cell? ⟨w.heap.size + 1, 4, none⟩ = some (.int .i64 b.bits) := (cell_of_row _ _ _ _ _ _ HX1.out).trans (roA_bits b)
  have A4 := Lib.hid (all_cell (o := 4) KA.out (roA_bits a))
  have B4 := Lib.hid (all_cell (o := 4) KB.out (roA_bits b))
  have AN := Lib.hid (all_part0 KA.out (roA_net a))
  have BN := Lib.hid (all_part0 KB.out (roA_net b))
  have HCM : Hid (∀ w', Reg w1 w' → Calls Try.prog 35 #[.slice (some ⟨w.heap.size, 0, none⟩) 4 4, .slice (some ⟨w.heap.size + 1, 0, none⟩) 4 4] w' fun e w'' => e = .returned (.int .i64 (cmpX a.net b.net)) ∧ Below w'.heap.size w' w'') := fun w' hr => bcompare_any a.net b.net _ _ w' (AN.out w' hr) (BN.out w' hr)
  have HD : Hid ((cmpX a.net b.net < 0) = (a.net.num < b.net.num)) := cmp_num _ _
  generalize a.net.num = n at HD HV
  generalize b.net.num = m at HD HV
  generalize cmpX a.net b.net = z at HD HCM
  generalize a.bits = p at *
  generalize b.bits = q at *
  clear hw1 KA KB AN BN
  generalize hbb : w.heap.size + 1 = bb at HX1 B4 HCM d4
  have HBB := Lib.hid hbb
  clear hbb
  rcases Int.lt_trichotomy q p with h | h | h
  · have HF : Hid (firstX a b = true) := HV.out.trans (decide_eq_true (.inl h))
    have hd : ¬ p = q := by omega
    clear HV
    go_enter Try.func27, Try.ntmps27
    go_upto_region 1 with (fail)
    change Code.wp _ _ _ _ ((w.alloc (.cells (roA a) 28)).alloc (.cells (roA b) 28))
    rw [HW.out, HBB.out]
    clear HW HBB
    go_wp2
    go_ret
    rw [HF.out]
    exact ⟨rfl, HB1.out⟩
  · subst h
    have hd : ¬ q < q := by omega
    have HF : Hid (firstX a b = decide (z < 0)) := HV.out.trans (decide_eq_decide.2 (by rw [HD.out]; simp))
    clear HV
    go_enter Try.func27, Try.ntmps27
    go_upto_region 1 with (fail)
    change Code.wp _ _ _ _ ((w.alloc (.cells (roA a) 28)).alloc (.cells (roA b) 28))
    rw [HW.out, HBB.out]
    clear HW HBB
    go_upto_region 3 with (fail)
    refine wp_region_quiet_below (by kernel_rfl) (by kernel_rfl) ?_
    (first | go_big_quiet_step (fail) | quiet_step (fail))
    (first | go_big_quiet_step (fail) | quiet_step (fail))
    (first | go_big_quiet_step (fail) | quiet_step (fail))
    (first | go_big_quiet_step (fail) | quiet_step (fail))
    quiet_step (first | (go_at_call 35; exact Calls.regrown_of (HCM.out _ ⟨_, rfl⟩)))
    (first | go_big_quiet_step (fail) | quiet_step (fail))
    (first | go_big_quiet_step (fail) | quiet_step (fail))
    refine wpQuiet_nil ?_
    intro w9 hw9
    obtain ⟨⟨dq, osq⟩, rfl⟩ := hw9
    have HB2 := Lib.hid ((HB1.out).trans ((below_regrown w1 dq osq).mono (HB1.out).size))
    generalize Sort.grow (redrawn w1 dq) osq = w2 at *
    go_wp2
    go_ret
    rw [HF.out]
    exact ⟨rfl, HB2.out⟩
  · have HF : Hid (firstX a b = false) := HV.out.trans (decide_eq_false (by omega))
    have hd : ¬ q < p := by omega
    have hd2 : ¬ p = q := by omega
    clear HV
    go_enter Try.func27, Try.ntmps27
    go_upto_region 1 with (fail)
    change Code.wp _ _ _ _ ((w.alloc (.cells (roA a) 28)).alloc (.cells (roA b) 28))
    rw [HW.out, HBB.out]
    clear HW HBB
    go_wp2
    go_ret
    rw [HF.out]
    exact ⟨rfl, HB1.out⟩
end Go.Proofs.Ytfifigokglmjlaa
