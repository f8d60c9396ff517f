/-
  The document's own answer for a frame's bytes (caravelref05.Build): the text of the bytes that the plain function gives. Every frame that can be read.
-/
import Derived.Test.YtooepllgefndnaaAds
import Derived.Deep.RegionHeld
namespace Go.Proofs.Ytooepllgefndnaa
open Go.RowKit

set_option maxRecDepth 100000 in
set_option maxHeartbeats 1000000 in
theorem refbuild_long (cs : Array Value) (A : Option Addr) (n c : Nat) (w : World) (h13 : cs[13]? = some (.slice A n c)) (hn : 200 < n) (hm : n ≤ 9223372036854775807) :
    Calls Try.prog 11 #[.agg cs] w fun e w' => e = .returned (.tuple #[txt [], .int .i64 4]) ∧ Below w.heap.size w w' := by
  have HB := Lib.hid ((Below.refl w.heap.size w).alloc (Nat.le_refl _) (.cells cs 27))
  go_enter Try.func11, Try.ntmps11
  go_wp2
  go_ret2
  exact ⟨rfl, HB.out⟩

theorem run_pair (w : World) (g : Nat) (a b : UInt8) (h : w.heap[g]? = some (.cells #[.int .u8 (a.toNat : Int), .int .u8 (b.toNat : Int)] 5 (0, 0))) : (convert 25 9 (.slice (some ⟨g, 0, none⟩) 2 2)).run Try.prog w = .ok (.string ⟨#[a, b]⟩) w :=
  run_text (P := Try.prog) (l := [a, b]) _ 25 9 5 2 Try.underlying25 Try.underlying5 Try.underlying9 (rd_mid (cs := #[.int .u8 (a.toNat : Int), .int .u8 (b.toNat : Int)]) h (fun k u hu => by simpa [cells] using hu))

theorem wrap_high (t : Nat) (h : t < 65536) : IntKind.u8.wrap (IntKind.u16.wrap ((t : Int) / 256)) = ((UInt8.ofNat (t / 256)).toNat : Int) := by
  rw [IntWalk.u16_in _ ⟨by omega, by omega⟩, IntWalk.u8_in _ ⟨by omega, by omega⟩, UInt8.toNat_ofNat', Nat.mod_eq_of_lt (by omega)]
  rfl
theorem wrap_low (t : Nat) (h : t < 65536) : IntKind.u8.wrap (Int.tmod (t : Int) 256) = ((UInt8.ofNat t).toNat : Int) := by
  rw [Int.tmod_eq_emod_of_nonneg (by omega), IntWalk.u8_in _ ⟨by omega, by omega⟩, UInt8.toNat_ofNat']
  rfl
theorem put_bytes (t : Nat) : putL t 2 = [UInt8.ofNat (t / 256), UInt8.ofNat t] := by
  simp [putL]

set_option maxRecDepth 100000 in
set_option maxHeartbeats 1000000 in
theorem refbuild_fits (cs : Array Value) (x0 x1 x2 x3 x4 x5 y0 y1 y2 y3 y4 y5 : UInt8) (t : Nat) (b : List UInt8) (w : World) (lo hi : Nat) (A : Option Addr) (c : Nat) (he : cs = (frC ⟨[x0, x1, x2, x3, x4, x5], [y0, y1, y2, y3, y4, y5], t, b⟩ (.slice A b.length c)).toArray) (ht : t < 65536) (hrd : Rd w lo hi A (cells b)) (hhi : hi ≤ w.heap.size) (hn : ¬ 200 < b.length) :
    Calls Try.prog 11 #[.agg cs] w fun e w' => e = .returned (.tuple #[txt (⟨[x0, x1, x2, x3, x4, x5], [y0, y1, y2, y3, y4, y5], t, b⟩ : Fr).bytes, .int .i64 0]) ∧ Below w.heap.size w w' := by
  have h13 : cs[13]? = some (.slice A b.length c) := by subst he; rfl
  obtain ⟨w0, hw0⟩ : ∃ w0, w0 = w.alloc (.cells cs 27) := ⟨_, rfl⟩
  have hg : w0.heap[w.heap.size]? = some (.cells cs 27 (0, 0)) := by rw [hw0]; exact heap_alloc_new w _
  have HB0 : Hid (Below w.heap.size w w0) := by rw [hw0]; exact (Below.refl _ _).alloc (Nat.le_refl _) _
  have hrd0 : Rd w0 lo hi A (cells b) := by rw [hw0]; exact hrd.alloc hhi _
  have hsz : w.heap.size < w0.heap.size := row_lt hg
  have key : ∀ k u, cs[k]? = some u → ∀ w', Below w0.heap.size w0 w' → w'.cell? ⟨w.heap.size, k, none⟩ = some u := fun k u hu w' hb => by
    rw [hb.cell (p := ⟨w.heap.size, k, none⟩) hsz, cell_of_row _ _ _ _ _ _ hg]
    exact hu
  have k0 := key 0 (.int .u8 (x0.toNat : Int)) (by subst he; rfl)
  have k1 := key 1 (.int .u8 (x1.toNat : Int)) (by subst he; rfl)
  have k2 := key 2 (.int .u8 (x2.toNat : Int)) (by subst he; rfl)
  have k3 := key 3 (.int .u8 (x3.toNat : Int)) (by subst he; rfl)
  have k4 := key 4 (.int .u8 (x4.toNat : Int)) (by subst he; rfl)
  have k5 := key 5 (.int .u8 (x5.toNat : Int)) (by subst he; rfl)
  have k6 := key 6 (.int .u8 (y0.toNat : Int)) (by subst he; rfl)
  have k7 := key 7 (.int .u8 (y1.toNat : Int)) (by subst he; rfl)
  have k8 := key 8 (.int .u8 (y2.toNat : Int)) (by subst he; rfl)
  have k9 := key 9 (.int .u8 (y3.toNat : Int)) (by subst he; rfl)
  have k10 := key 10 (.int .u8 (y4.toNat : Int)) (by subst he; rfl)
  have k11 := key 11 (.int .u8 (y5.toNat : Int)) (by subst he; rfl)
  have k12 := key 12 (.int .u16 (t : Int)) (by subst he; rfl)
  have k13 := key 13 _ h13
  have kt : ∀ w', Below w0.heap.size w0 w' → (convert 25 9 (.slice A b.length c)).run Try.prog w' = .ok (.string ⟨b.toArray⟩) w' := fun w' hb =>
    run_text (P := Try.prog) w' 25 9 5 c Try.underlying25 Try.underlying5 Try.underlying9 (hrd0.below hb (by rw [hw0]; simp; omega))
  obtain ⟨n, hbn⟩ : ∃ n, b.length = n := ⟨_, rfl⟩
  rw [hbn] at h13 hn k13 kt
  have HBN := Lib.hid hbn
  have HK := Lib.hid (And.intro k0 (And.intro k1 (And.intro k2 (And.intro k3 (And.intro k4 (And.intro k5 (And.intro k6 (And.intro k7 (And.intro k8 (And.intro k9 (And.intro k10 (And.intro k11 (And.intro k12 (And.intro k13 kt))))))))))))))
  have HG := Lib.hid hg
  have HW := Lib.hid hw0
  have HT := Lib.hid ht
  have he1 := wrap_high t ht
  have he2 := wrap_low t ht
  have HPT := Lib.hid (put_bytes t)
  generalize UInt8.ofNat (t / 256) = zh at he1 HPT
  generalize UInt8.ofNat t = zl at he2 HPT
  have HE := Lib.hid (And.intro he1 he2)
  have HTX : Hid (Value.string ((⟨#[x0, x1, x2, x3, x4, x5]⟩ : ByteArray) ++ ⟨#[y0, y1, y2, y3, y4, y5]⟩ ++ ⟨#[zh, zl]⟩ ++ ⟨b.toArray⟩) = txt (⟨[x0, x1, x2, x3, x4, x5], [y0, y1, y2, y3, y4, y5], t, b⟩ : Fr).bytes) := by
    show _ = _
    congr 1
    apply ByteArray.ext
    simp [Fr.bytes, HPT.out]
  clear he1 he2
  clear key k0 k1 k2 k3 k4 k5 k6 k7 k8 k9 k10 k11 k12 k13 kt he hbn hg hrd hrd0 hhi hw0 ht hsz
  go_enter Try.func11, Try.ntmps11
  go_wp2_with fail
  rw [← HW.out]
  have hS : Below w0.heap.size w0 w0 := Below.refl _ _
  obtain ⟨k0, k1, k2, k3, k4, k5, k6, k7, k8, k9, k10, k11, k12, k13, kt⟩ := HK.out
  obtain ⟨e1, e2⟩ := HE.out
  have kd := fun (w : World) => run_pair (w.alloc (.cells #[.int .u8 (zh.toNat : Int), .int .u8 (zl.toNat : Int)] 5)).drew w.heap.size zh zl (heap_alloc_new w _)
  have hbl : b.length ≤ 200 := by have := HBN.out; omega
  have kn := fun (w : World) => run_pair (w.alloc (.cells #[.int .u8 (zh.toNat : Int), .int .u8 (zl.toNat : Int)] 5)) w.heap.size zh zl (heap_alloc_new w _)
  go_region_held (fun w' => Below w0.heap.size w0 w')
    (first | assumption | exact Below.drew (by assumption) | exact Below.alloc (by assumption) (Below.size (by assumption)) _ | exact Below.trans (by assumption) (Below.mono hb2 (Below.size (by assumption))))
    (first | (go_at_call 21; refine (card_lit _ _ _ _ _ _ _).mono ?_; rintro e w2 ⟨rfl, hb2⟩; (first | (have hq2 := (hb2.block _ (by simp)).trans (heap_alloc_new _ (.cells #[.int .u8 (zh.toNat : Int), .int .u8 (zl.toNat : Int)] 5)); have kq2 := run_pair _ _ zh zl hq2) | (have hq3 := (hb2.block _ (row_lt hq2)).trans hq2; have kq3 := run_pair _ _ zh zl hq3) | skip)))
  all_goals
    clear k0 k1 k2 k3 k4 k5 k6 k7 k8 k9 k10 k11 k12 k13 kt e1 e2 kn kd
    go_wp2
    go_ret2
    exact ⟨by rw [HTX.out]; rfl, HB0.out.trans (Below.mono (B := w0.heap.size) (by assumption) HB0.out.size)⟩

/-- caravelref05.Build, all of it -/
theorem refbuild_any (cs : Array Value) (f : Fr) (w : World) (lo hi : Nat) (h : FrV w lo hi cs f) (hhi : hi ≤ w.heap.size) :
    Calls Try.prog 11 #[.agg cs] w fun e w' => e = .returned (.tuple #[txt (buildS f).1, .int .i64 (buildS f).2]) ∧ Below w.heap.size w w' := by
  obtain ⟨A, c, he, hok, hrd, hlc, hcm, hA⟩ := h
  obtain ⟨d, s, t, b⟩ := f
  obtain ⟨hd, hs, ht⟩ := hok
  simp only at hd hs ht hrd hlc he
  obtain ⟨x0, x1, x2, x3, x4, x5, rfl⟩ := six_of d hd
  obtain ⟨y0, y1, y2, y3, y4, y5, rfl⟩ := six_of s hs
  by_cases hb : 200 < b.length
  · have e1 : buildS ⟨[x0, x1, x2, x3, x4, x5], [y0, y1, y2, y3, y4, y5], t, b⟩ = ([], 4) := by unfold buildS; rw [if_pos hb]
    rw [e1]
    exact refbuild_long cs A b.length c w (by subst he; rfl) hb (by unfold maxLen at hcm; omega)
  · have e1 : buildS ⟨[x0, x1, x2, x3, x4, x5], [y0, y1, y2, y3, y4, y5], t, b⟩ = ((⟨[x0, x1, x2, x3, x4, x5], [y0, y1, y2, y3, y4, y5], t, b⟩ : Fr).bytes, 0) := by unfold buildS; rw [if_neg hb]
    rw [e1]
    exact refbuild_fits cs x0 x1 x2 x3 x4 x5 y0 y1 y2 y3 y4 y5 t b w lo hi A c he ht hrd hhi hb
end Go.Proofs.Ytooepllgefndnaa
