/-
  ring.may, ring.Len, ring.place, ring.counts: their answers for right rings. No condition beyond that.
-/
import Derived.Test.YtdbiledmokldjaaRg
import Derived.Lib.QuietBelow
import Derived.BigQuiet
namespace Go.Proofs.Ytdbiledmokldjaa
open Go.RowKit

set_option maxHeartbeats 1000000 in
theorem ones64_any (n : Nat) (hn : MayN n) (w : World) : Calls Try.prog 34 #[.int .u64 (n : Int)] w fun e w' => e = .returned (.int .i64 1) ∧ w = w' := by
  rcases hn with rfl | rfl | rfl | rfl | rfl
  all_goals
    go_enter Try.func34, Try.ntmps34
    go_wp2
    go_ret
    exact ⟨by kernel_rfl, rfl⟩
theorem ones_any (n : Nat) (hn : MayN n) (w : World) : Calls Try.prog 32 #[.int .u64 (n : Int)] w fun e w' => e = .returned (.int .i64 1) ∧ w = w' := by
  go_enter Try.func32, Try.ntmps32
  go_wp2_with fail
  refine (ones64_any n hn w).mono ?_
  rintro e w' ⟨rfl, rfl⟩
  go_wp2
  go_ret
  exact ⟨rfl, rfl⟩
theorem may_any (n : Nat) (hn : MayN n) (w : World) : Calls Try.prog 30 #[.int .i64 (n : Int)] w fun e w' => e = .returned (.bool true) ∧ w = w' := by
  have hp := hn.pos
  have HN := Lib.hid hn
  obtain ⟨hp1, hp2⟩ := hp
  have hw : IntKind.u64.wrap (n : Int) = (n : Int) := by rw [IntKind.wrap_u64]; omega
  clear hn
  go_enter Try.func30, Try.ntmps30
  go_wp2_with fail
  refine (ones_any n HN.out w).mono ?_
  rintro e w' ⟨rfl, rfl⟩
  go_wp2
  go_ret
  exact ⟨rfl, rfl⟩
theorem may_below (n : Nat) (hn : MayN n) (w : World) : Calls Try.prog 30 #[.int .i64 (n : Int)] w fun e w' => e = .returned (.bool true) ∧ Below w.heap.size w w' := by
  refine (may_any n hn w).mono ?_
  rintro e w' ⟨h1, rfl⟩
  exact ⟨h1, Below.refl _ _⟩
theorem sub_u16 (a b k : Nat) (_ : a < 65536) (_ : b < 65536) (_ : k < 65536) (_ : a = (b + k) % 65536) : IntKind.u16.wrap ((a : Int) - (b : Int)) = (k : Int) := by
  rw [IntKind.wrap_u16]
  omega
theorem len_num (n c p t d r k : Nat) (A : Option Addr) (w : World) (hp : p < 65536) (hr : r < 65536) (hk : k ≤ 16) (h : p = (r + k) % 65536) :
    Calls Try.prog 12 #[.agg #[.slice A n c, .int .u16 (p : Int), .int .u16 (t : Int), .int .u16 (d : Int), .int .u16 (r : Int)]] w fun e w' => e = .returned (.int .i64 (k : Int)) ∧ Below w.heap.size w w' := by
  have hs := sub_u16 p r k hp hr (by omega) h
  clear h
  go_enter Try.func12, Try.ntmps12
  go_wp2
  go_ret
  exact ⟨rfl, (Below.refl _ _).alloc (Nat.le_refl _) _⟩
theorem place_num (n c p t d r k : Nat) (A : Option Addr) (w : World) (hk : k < 65536) (hn : 0 < n) :
    Calls Try.prog 27 #[.agg #[.slice A n c, .int .u16 (p : Int), .int .u16 (t : Int), .int .u16 (d : Int), .int .u16 (r : Int)], .int .u16 (k : Int)] w fun e w' => e = .returned (.int .i64 ((k % n : Nat) : Int)) ∧ Below w.heap.size w w' := by
  go_enter Try.func27, Try.ntmps27
  go_wp2
  go_ret
  exact ⟨rfl, (Below.refl _ _).alloc (Nat.le_refl _) _⟩
set_option maxHeartbeats 1000000 in
theorem counts_num (n c p t d r D T P : Nat) (A : Option Addr) (w : World) (hn : MayN n) (hp : p < 65536) (ht : t < 65536) (hd : d < 65536) (hr : r < 65536) (h1 : d = (r + D) % 65536) (h2 : t = (r + (D + T)) % 65536) (h3 : p = (r + (D + T + P)) % 65536) (hle : D + T + P ≤ n) :
    Calls Try.prog 26 #[.agg #[.slice A n c, .int .u16 (p : Int), .int .u16 (t : Int), .int .u16 (d : Int), .int .u16 (r : Int)]] w fun e w' => e = .returned (.bool true) ∧ Below w.heap.size w w' := by
  have hpos := hn.pos
  obtain ⟨hp1, hp2⟩ := hpos
  have s1 : IntKind.u16.wrap ((d : Int) - (r : Int)) = (D : Int) := sub_u16 d r D hd hr (by omega) h1
  have s2 : IntKind.u16.wrap ((t : Int) - (d : Int)) = (T : Int) := sub_u16 t d T ht hd (by omega) (by omega)
  have s3 : IntKind.u16.wrap ((p : Int) - (t : Int)) = (P : Int) := sub_u16 p t P hp ht (by omega) (by omega)
  have HL : Hid (∀ w, Calls Try.prog 12 #[.agg #[.slice A n c, .int .u16 (p : Int), .int .u16 (t : Int), .int .u16 (d : Int), .int .u16 (r : Int)]] w fun e w' => e = .returned (.int .i64 ((D : Int) + (T : Int) + (P : Int))) ∧ Below w.heap.size w w') := fun w => by
    have := len_num n c p t d r (D + T + P) A w hp hr (by omega) h3
    push_cast at this
    exact this
  have hc1 : (D : Int) + (T : Int) + (P : Int) ≤ (n : Int) := by omega
  have HM := Lib.hid (fun w => may_below n hn w)
  have HB1 := Lib.hid ((Below.refl w.heap.size w).alloc (Nat.le_refl _) (.cells #[.slice A n c, .int .u16 (p : Int), .int .u16 (t : Int), .int .u16 (d : Int), .int .u16 (r : Int)] 29))
  have HX := Lib.hid (heap_alloc_new w (.cells #[.slice A n c, .int .u16 (p : Int), .int .u16 (t : Int), .int .u16 (d : Int), .int .u16 (r : Int)] 29))
  have v1 : IntKind.i64.wrap (D : Int) = (D : Int) := IntWalk.i64_in _ ⟨by omega, by omega⟩
  have v2 : IntKind.i64.wrap (T : Int) = (T : Int) := IntWalk.i64_in _ ⟨by omega, by omega⟩
  have v3 : IntKind.i64.wrap (P : Int) = (P : Int) := IntWalk.i64_in _ ⟨by omega, by omega⟩
  have v4 : IntKind.i64.wrap ((D : Int) + (T : Int)) = (D : Int) + (T : Int) := IntWalk.i64_in _ ⟨by omega, by omega⟩
  have v5 : IntKind.i64.wrap ((D : Int) + (T : Int) + (P : Int)) = (D : Int) + (T : Int) + (P : Int) := IntWalk.i64_in _ ⟨by omega, by omega⟩
  clear h1 h2 h3 hn
  go_enter Try.func26, Try.ntmps26
  go_upto_region 1 with (fail)
  generalize w.alloc (.cells #[.slice A n c, .int .u16 (p : Int), .int .u16 (t : Int), .int .u16 (d : Int), .int .u16 (r : Int)] 29) = w1 at HB1 HX ⊢
  generalize w.heap.size = N at HX ⊢
  obtain ⟨c0, c1, c2, c3, c4⟩ := five_cells HX.out
  go_quiet (fail)
  rename_i nq
  have HB2 : Hid (Below w.heap.size w (w1.drewN nq)) := below_drewN' HB1.out nq
  have HX2 : Hid ((w1.drewN nq).heap[N]? = some (.cells #[.slice A n c, .int .u16 (p : Int), .int .u16 (t : Int), .int .u16 (d : Int), .int .u16 (r : Int)] 29 (0, 0))) := HX.out
  clear c0 c1 c2 c3 c4
  generalize w1.drewN nq = w2 at HB2 HX2 ⊢
  obtain ⟨c0, c1, c2, c3, c4⟩ := five_cells HX2.out
  have k0 := cell_regrown c0
  have k1 := cell_regrown c1
  have k2 := cell_regrown c2
  have k3 := cell_regrown c3
  have k4 := cell_regrown c4
  clear c0 c1 c2 c3 c4
  go_wp2_with fail
  refine wp_region_quiet_below (by kernel_rfl) (by kernel_rfl) ?_
  repeat (quiet_step (first | (go_at_call 30; exact Calls.regrown_of (HM.out _)) | (go_at_call 12; exact Calls.regrown_of (HL.out _))))
  refine wpQuiet_nil ?_
  intro w3 hw'
  obtain ⟨⟨dq, osq⟩, rfl⟩ := hw'
  have HB3 := Lib.hid (HB2.out.trans ((below_regrown w2 dq osq).mono HB2.out.size))
  go_wp2
  go_ret
  exact ⟨rfl, HB3.out⟩
end Go.Proofs.Ytdbiledmokldjaa
