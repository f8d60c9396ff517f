/-
  The document's own answer for an Arp's bytes (caravelref05.BuildArp): the text of the bytes that the plain function gives. Every Arp.
-/
import Derived.Test.YtooepllgefndnaaArp
import Derived.Test.YtooepllgefndnaaAds
import Derived.Deep.RegionHeld
namespace Go.Proofs.Ytooepllgefndnaa
open Go.RowKit

set_option maxHeartbeats 1000000 in
theorem refbuildarp_arg (cs : Array Value) (o : Int) (w : World) (h0 : cs[0]? = some (.int .i64 o)) (hk : knownB o = false) :
    Calls Try.prog 16 #[.agg cs] w fun e w' => e = .returned (.tuple #[txt [], .int .i64 1]) ∧ Below w.heap.size w w' := by
  have HB := Lib.hid ((Below.refl w.heap.size w).alloc (Nat.le_refl _) (.cells cs 44))
  have hk2 := of_decide_eq_false hk
  clear hk
  rcases (show o < 1 ∨ 2 < o by omega) with h1 | h1
  all_goals
    clear hk2
    go_enter Try.func16, Try.ntmps16
    go_wp2
    go_ret2
    exact ⟨rfl, HB.out⟩

theorem run_eight (w : World) (g : Nat) (k : UInt8) (h : w.heap[g]? = some (.cells #[.int .u8 0, .int .u8 1, .int .u8 8, .int .u8 0, .int .u8 6, .int .u8 4, .int .u8 0, .int .u8 (k.toNat : Int)] 5 (0, 0))) : (convert 25 9 (.slice (some ⟨g, 0, none⟩) 8 8)).run Try.prog w = .ok (.string ⟨#[0, 1, 8, 0, 6, 4, 0, k]⟩) w :=
  run_text (P := Try.prog) (l := [0, 1, 8, 0, 6, 4, 0, k]) _ 25 9 5 8 Try.underlying25 Try.underlying5 Try.underlying9 (rd_mid (cs := #[.int .u8 0, .int .u8 1, .int .u8 8, .int .u8 0, .int .u8 6, .int .u8 4, .int .u8 0, .int .u8 (k.toNat : Int)]) h (fun q u hu => by simpa [cells] using hu))

set_option maxRecDepth 100000 in
set_option maxHeartbeats 4000000 in
theorem refbuildarp_fits (cs : Array Value) (o : Int) (x0 x1 x2 x3 x4 x5 y0 y1 y2 y3 u0 u1 u2 u3 u4 u5 v0 v1 v2 v3 : UInt8) (w : World) (he : cs = (arC (⟨o, [x0, x1, x2, x3, x4, x5], [y0, y1, y2, y3], [u0, u1, u2, u3, u4, u5], [v0, v1, v2, v3]⟩ : Ar)).toArray) (hk : knownB o = true) :
    Calls Try.prog 16 #[.agg cs] w fun e w' => e = .returned (.tuple #[txt (⟨o, [x0, x1, x2, x3, x4, x5], [y0, y1, y2, y3], [u0, u1, u2, u3, u4, u5], [v0, v1, v2, v3]⟩ : Ar).bytes, .int .i64 0]) ∧ Below w.heap.size w w' := by
  obtain ⟨w0, hw0⟩ : ∃ w0, w0 = w.alloc (.cells cs 44) := ⟨_, rfl⟩
  have hg : w0.heap[w.heap.size]? = some (.cells cs 44 (0, 0)) := by rw [hw0]; exact heap_alloc_new w _
  have HB0 : Hid (Below w.heap.size w w0) := by rw [hw0]; exact (Below.refl _ _).alloc (Nat.le_refl _) _
  have hsz : w.heap.size < w0.heap.size := row_lt hg
  have h0 : cs[0]? = some (.int .i64 o) := by subst he; rfl
  have key : ∀ k u, cs[k]? = some u → ∀ w', Below w0.heap.size w0 w' → w'.cell? ⟨w.heap.size, k, none⟩ = some u := fun k u hu w' hb => by
    rw [hb.cell (p := ⟨w.heap.size, k, none⟩) hsz, cell_of_row _ _ _ _ _ _ hg]
    exact hu
  have k0 := key 0 (.int .i64 o) (by subst he; rfl)
  have k1 := key 1 (.int .u8 (x0.toNat : Int)) (by subst he; rfl)
  have k2 := key 2 (.int .u8 (x1.toNat : Int)) (by subst he; rfl)
  have k3 := key 3 (.int .u8 (x2.toNat : Int)) (by subst he; rfl)
  have k4 := key 4 (.int .u8 (x3.toNat : Int)) (by subst he; rfl)
  have k5 := key 5 (.int .u8 (x4.toNat : Int)) (by subst he; rfl)
  have k6 := key 6 (.int .u8 (x5.toNat : Int)) (by subst he; rfl)
  have k7 := key 7 (.int .u8 (y0.toNat : Int)) (by subst he; rfl)
  have k8 := key 8 (.int .u8 (y1.toNat : Int)) (by subst he; rfl)
  have k9 := key 9 (.int .u8 (y2.toNat : Int)) (by subst he; rfl)
  have k10 := key 10 (.int .u8 (y3.toNat : Int)) (by subst he; rfl)
  have k11 := key 11 (.int .u8 (u0.toNat : Int)) (by subst he; rfl)
  have k12 := key 12 (.int .u8 (u1.toNat : Int)) (by subst he; rfl)
  have k13 := key 13 (.int .u8 (u2.toNat : Int)) (by subst he; rfl)
  have k14 := key 14 (.int .u8 (u3.toNat : Int)) (by subst he; rfl)
  have k15 := key 15 (.int .u8 (u4.toNat : Int)) (by subst he; rfl)
  have k16 := key 16 (.int .u8 (u5.toNat : Int)) (by subst he; rfl)
  have k17 := key 17 (.int .u8 (v0.toNat : Int)) (by subst he; rfl)
  have k18 := key 18 (.int .u8 (v1.toNat : Int)) (by subst he; rfl)
  have k19 := key 19 (.int .u8 (v2.toNat : Int)) (by subst he; rfl)
  have k20 := key 20 (.int .u8 (v3.toNat : Int)) (by subst he; rfl)
  have hop := byte_op hk
  obtain ⟨k, hkb⟩ : ∃ k : UInt8, UInt8.ofNat o.toNat = k := ⟨_, rfl⟩
  rw [hkb] at hop
  have HW8 := Lib.hid (show IntKind.u8.wrap o = (k.toNat : Int) from by rw [hop]; rcases known_cases hk with rfl | rfl <;> rfl)
  have HTX : Hid (Value.string ((⟨#[0, 1, 8, 0, 6, 4, 0, k]⟩ : ByteArray) ++ ⟨#[x0, x1, x2, x3, x4, x5]⟩ ++ ⟨#[y0, y1, y2, y3]⟩ ++ ⟨#[u0, u1, u2, u3, u4, u5]⟩ ++ ⟨#[v0, v1, v2, v3]⟩) = txt (⟨o, [x0, x1, x2, x3, x4, x5], [y0, y1, y2, y3], [u0, u1, u2, u3, u4, u5], [v0, v1, v2, v3]⟩ : Ar).bytes) := by
    show _ = _
    congr 1
    apply ByteArray.ext
    simp [Ar.bytes, headB, hkb]
  have HK := Lib.hid (And.intro k0 (And.intro k1 (And.intro k2 (And.intro k3 (And.intro k4 (And.intro k5 (And.intro k6 (And.intro k7 (And.intro k8 (And.intro k9 (And.intro k10 (And.intro k11 (And.intro k12 (And.intro k13 (And.intro k14 (And.intro k15 (And.intro k16 (And.intro k17 (And.intro k18 (And.intro k19 (k20)))))))))))))))))))))
  have HW := Lib.hid hw0
  have hk2 : 1 ≤ o ∧ o ≤ 2 := by have := known_cases hk; omega
  obtain ⟨hk3, hk4⟩ := hk2
  clear key k0 k1 k2 k3 k4 k5 k6 k7 k8 k9 k10 k11 k12 k13 k14 k15 k16 k17 k18 k19 k20 he hg hw0 hsz hk hop hkb
  go_enter Try.func16, Try.ntmps16
  go_wp2_with fail
  rw [← HW.out]
  have hS : Below w0.heap.size w0 w0 := Below.refl _ _
  obtain ⟨k0, k1, k2, k3, k4, k5, k6, k7, k8, k9, k10, k11, k12, k13, k14, k15, k16, k17, k18, k19, k20⟩ := HK.out
  have e1 := HW8.out
  have kn := fun (w : World) => run_eight (w.alloc (.cells #[.int .u8 0, .int .u8 1, .int .u8 8, .int .u8 0, .int .u8 6, .int .u8 4, .int .u8 0, .int .u8 (k.toNat : Int)] 5)) w.heap.size k (heap_alloc_new w _)
  have kd := fun (w : World) => run_eight (w.alloc (.cells #[.int .u8 0, .int .u8 1, .int .u8 8, .int .u8 0, .int .u8 6, .int .u8 4, .int .u8 0, .int .u8 (k.toNat : Int)] 5)).drew w.heap.size k (heap_alloc_new w _)
  go_region_held (fun w' => Below w0.heap.size w0 w')
    (first | assumption | exact Below.drew (by assumption) | exact Below.alloc (by assumption) (Below.size (by assumption)) _ | exact Below.trans (by assumption) (Below.mono hb2 (Below.size (by assumption))))
    (first | (go_at_call 21; refine (card_lit _ _ _ _ _ _ _).mono ?_; rintro e w2 ⟨rfl, hb2⟩; (first | (have hq2 := (hb2.block _ (by simp)).trans (heap_alloc_new _ (.cells #[.int .u8 0, .int .u8 1, .int .u8 8, .int .u8 0, .int .u8 6, .int .u8 4, .int .u8 0, .int .u8 (k.toNat : Int)] 5)); have kq2 := run_eight _ _ k hq2) | (have hq2 := (hb2.block _ (row_lt hq2)).trans hq2; have kq2 := run_eight _ _ k hq2) | skip)) | (go_at_call 26; refine (host_lit _ _ _ _ _).mono ?_; rintro e w2 ⟨rfl, hb2⟩; (first | (have hq2 := (hb2.block _ (by simp)).trans (heap_alloc_new _ (.cells #[.int .u8 0, .int .u8 1, .int .u8 8, .int .u8 0, .int .u8 6, .int .u8 4, .int .u8 0, .int .u8 (k.toNat : Int)] 5)); have kq2 := run_eight _ _ k hq2) | (have hq2 := (hb2.block _ (row_lt hq2)).trans hq2; have kq2 := run_eight _ _ k hq2) | skip)))
  all_goals
    clear k0 k1 k2 k3 k4 k5 k6 k7 k8 k9 k10 k11 k12 k13 k14 k15 k16 k17 k18 k19 k20 e1 kn kd
    go_wp2
    go_ret2
    exact ⟨by rw [HTX.out]; rfl, HB0.out.trans (Below.mono (B := w0.heap.size) (by assumption) HB0.out.size)⟩

/-- caravelref05.BuildArp, all of it -/
theorem refbuildarp_any (cs : Array Value) (a : Ar) (w : World) (h : ArV cs a) :
    Calls Try.prog 16 #[.agg cs] w fun e w' => e = .returned (.tuple #[txt (buildA a).1, .int .i64 (buildA a).2]) ∧ Below w.heap.size w w' := by
  obtain ⟨he, hok⟩ := h
  by_cases hk : knownB a.o = true
  · have e1 : buildA a = (a.bytes, 0) := by unfold buildA; rw [if_pos hk]
    rw [e1]
    obtain ⟨o, m, i, p, j⟩ := a
    obtain ⟨h1, h2, h3, h4⟩ := hok
    simp only at h1 h2 h3 h4 hk he
    obtain ⟨x0, x1, x2, x3, x4, x5, rfl⟩ := six_of m h1
    obtain ⟨y0, y1, y2, y3, rfl⟩ := four_of i h2
    obtain ⟨u0, u1, u2, u3, u4, u5, rfl⟩ := six_of p h3
    obtain ⟨v0, v1, v2, v3, rfl⟩ := four_of j h4
    exact refbuildarp_fits cs o x0 x1 x2 x3 x4 x5 y0 y1 y2 y3 u0 u1 u2 u3 u4 u5 v0 v1 v2 v3 w he hk
  · have e1 : buildA a = ([], 1) := by unfold buildA; rw [if_neg hk]
    rw [e1]
    exact refbuildarp_arg cs a.o w (by rw [he]; simp [arC]) (by simpa using hk)
end Go.Proofs.Ytooepllgefndnaa
