/-
  ether.known and ether.BuildArp(a): ErrArg of an Op that is neither 1 nor 2, else an Arp's bytes in a row of the call's own. Every Arp.
-/
import Derived.Test.YtooepllgefndnaaArp
import Derived.Deep.DeepCutAuto
import Derived.Deep.RegionWith
import Derived.Lib.SlBytesConst
namespace Go.Proofs.Ytooepllgefndnaa
open Go.RowKit

theorem known_any (o : Int) (w : World) : Calls Try.prog 25 #[.int .i64 o] w fun e w' => e = .returned (.bool (knownB o)) ∧ w = w' := by
  by_cases h1 : o = 1
  · subst h1
    go_enter Try.func25, Try.ntmps25
    go_wp2
    go_ret
    exact ⟨rfl, rfl⟩
  · by_cases h2 : o = 2
    · subst h2
      go_enter Try.func25, Try.ntmps25
      go_wp2
      go_ret
      exact ⟨rfl, rfl⟩
    · have HK := Lib.hid (show knownB o = false from decide_eq_false (by omega))
      have q1 : (o == 1) = false := by simp [h1]
      have q2 : (o == 2) = false := by simp [h2]
      clear h1 h2
      go_enter Try.func25, Try.ntmps25
      go_wp2
      go_ret
      exact ⟨by rw [HK.out]; rfl, rfl⟩

/-- a constant's bytes, behind a draw too -/
theorem conv_const (w : World) (C : Array Value) (n c : Nat) : (convert 25 25 (.slice (some ⟨w.heap.size, 0, none⟩) n c)).run Try.prog (w.alloc (.cells C 5)) = .ok (.slice (some ⟨w.heap.size, 0, none⟩) n c) (w.alloc (.cells C 5 (C.size, C.size + 1))) :=
  Lib.run_convert_bytes_const (P := Try.prog) w 25 5 C n c Try.underlying25 Try.underlying5
theorem conv_const_drew (w : World) (C : Array Value) (n c : Nat) : (convert 25 25 (.slice (some ⟨w.heap.size, 0, none⟩) n c)).run Try.prog (w.alloc (.cells C 5)).drew = .ok (.slice (some ⟨w.heap.size, 0, none⟩) n c) (w.alloc (.cells C 5 (C.size, C.size + 1))).drew :=
  conv_const w.drew C n c

set_option maxHeartbeats 1000000 in
theorem buildarp_arg (cs : Array Value) (o : Int) (w : World) (h0 : cs[0]? = some (.int .i64 o)) (hk : knownB o = false) :
    Calls Try.prog 15 #[.agg cs] w fun e w' => e = .returned (.tuple #[.slice none 0 0, .int .i64 1]) ∧ Below w.heap.size w w' := by
  have HB := Lib.hid ((Below.refl w.heap.size w).alloc (Nat.le_refl _) (.cells cs 44))
  have HK := Lib.hid hk
  clear hk
  go_enter Try.func15, Try.ntmps15
  go_wp2_with fail
  refine (known_any o _).mono ?_
  rintro e w1 ⟨rfl, rfl⟩
  rw [HK.out]
  go_wp2
  go_ret2
  exact ⟨rfl, HB.out⟩

/-- the parts of an Arp, concatenated -/
theorem concat6 (ad : Addr) (v0 v1 v2 v3 v4 v5 : Value) (lo hi lo2 hi2 : Nat) (p0 p1 p2 p3 p4 p5 : List UInt8) (w : World) (h : Rd w lo hi (some ad) [v0, v1, v2, v3, v4, v5]) (hb : Bits w lo2 hi2 [v0, v1, v2, v3, v4, v5] [p0, p1, p2, p3, p4, p5]) (hhi : hi ≤ w.heap.size) (hhi2 : hi2 ≤ w.heap.size)
    (hl : p0.length + p1.length + p2.length + p3.length + p4.length + p5.length ≤ 1000000000) :
    Calls Try.prog 20 #[.slice (some ad) 6 6] w fun e w' => ∃ A c', e = .returned (.slice A (p0 ++ p1 ++ p2 ++ p3 ++ p4 ++ p5).length c') ∧ OwnB w' w.heap.size (.slice A (p0 ++ p1 ++ p2 ++ p3 ++ p4 ++ p5).length c') (p0 ++ p1 ++ p2 ++ p3 ++ p4 ++ p5) ∧ Below w.heap.size w w' := by
  have e : [p0, p1, p2, p3, p4, p5].flatten = p0 ++ p1 ++ p2 ++ p3 ++ p4 ++ p5 := by simp
  have := concat_any ad 6 lo hi lo2 hi2 [v0, v1, v2, v3, v4, v5] [p0, p1, p2, p3, p4, p5] w h hb hhi hhi2 (by rw [e]; simp; omega) (by simp)
  rw [e] at this
  exact this

/-- a piece of an Arp's cells -/
theorem ar_piece (a : Ar) (hok : a.ok) : (∀ (k : Nat) u, (cells a.m)[k]? = some u → (arC a).toArray[1 + k]? = some u) ∧ (∀ (k : Nat) u, (cells a.i)[k]? = some u → (arC a).toArray[7 + k]? = some u) ∧
    (∀ (k : Nat) u, (cells a.p)[k]? = some u → (arC a).toArray[11 + k]? = some u) ∧ (∀ (k : Nat) u, (cells a.j)[k]? = some u → (arC a).toArray[17 + k]? = some u) := by
  obtain ⟨h1, h2, h3, h4⟩ := hok
  have k1 : (cells a.m).length = 6 := by rw [cells_length, h1]
  have k2 : (cells a.i).length = 4 := by rw [cells_length, h2]
  have k3 : (cells a.p).length = 6 := by rw [cells_length, h3]
  have k4 : (cells a.j).length = 4 := by rw [cells_length, h4]
  have g : ∀ (pre xs post : List Value) (n k : Nat) (u : Value), pre.length = n → xs[k]? = some u → (pre ++ (xs ++ post))[n + k]? = some u := by
    intro pre xs post n k u hn hu
    have hk := (List.getElem?_eq_some_iff.1 hu).1
    rw [List.getElem?_append_right (by omega), show n + k - pre.length = k from by omega, List.getElem?_append_left hk]
    exact hu
  refine ⟨fun k u hu => ?_, fun k u hu => ?_, fun k u hu => ?_, fun k u hu => ?_⟩
  · rw [List.getElem?_toArray]
    have := g [Value.int .i64 a.o] (cells a.m) (cells a.i ++ cells a.p ++ cells a.j) 1 k u rfl hu
    simpa [arC] using this
  · rw [List.getElem?_toArray]
    have := g ([Value.int .i64 a.o] ++ cells a.m) (cells a.i) (cells a.p ++ cells a.j) 7 k u (by simp [k1]) hu
    simpa [arC] using this
  · rw [List.getElem?_toArray]
    have := g ([Value.int .i64 a.o] ++ cells a.m ++ cells a.i) (cells a.p) (cells a.j) 11 k u (by simp [k1, k2]) hu
    simpa [arC] using this
  · rw [List.getElem?_toArray]
    have := g ([Value.int .i64 a.o] ++ cells a.m ++ cells a.i ++ cells a.p) (cells a.j) [] 17 k u (by simp [k1, k2, k3]) hu
    simpa [arC] using this

set_option maxRecDepth 100000 in
set_option maxHeartbeats 2000000 in
theorem buildarp_fits (cs : Array Value) (a : Ar) (w : World) (h : ArV cs a) (hk : knownB a.o = true) :
    Calls Try.prog 15 #[.agg cs] w fun e w' => ∃ A' c', e = .returned (.tuple #[.slice A' a.bytes.length c', .int .i64 0]) ∧ OwnB w' w.heap.size (.slice A' a.bytes.length c') a.bytes ∧ Below w.heap.size w w' := by
  obtain ⟨he, hok⟩ := h
  have h0 : cs[0]? = some (.int .i64 a.o) := by subst he; simp [arC]
  obtain ⟨f1, f2, f3, f4⟩ := ar_piece a hok
  rw [← he] at f1 f2 f3 f4
  obtain ⟨o, m, i, p, j⟩ := a
  simp only at hk h0 f1 f2 f3 f4
  have hop := byte_op hk
  obtain ⟨k, hkb⟩ : ∃ k : UInt8, UInt8.ofNat o.toNat = k := ⟨_, rfl⟩
  rw [hkb] at hop
  have HW8 := Lib.hid (show IntKind.u8.wrap o = (k.toNat : Int) from by rw [hop]; rcases known_cases hk with rfl | rfl <;> rfl)
  have HFB : Hid ((⟨o, m, i, p, j⟩ : Ar).bytes = headB ++ [k] ++ m ++ i ++ p ++ j) := by show _ = _; simp only [Ar.bytes]; rw [hkb]
  have HF := Lib.hid (And.intro f1 (And.intro f2 (And.intro f3 f4)))
  have HOK := Lib.hid hok
  have HK := Lib.hid hk
  have HB0 := Lib.hid ((Below.refl w.heap.size w).alloc (Nat.le_refl _) (.cells cs 44))
  have HG0 := Lib.hid (heap_alloc_new w (.cells cs 44))
  clear he hok hk f1 f2 f3 f4 hop hkb
  go_enter Try.func15, Try.ntmps15
  go_wp2_with fail
  refine (known_any o _).mono ?_
  rintro e w1 ⟨rfl, rfl⟩
  rw [HK.out]
  have hw8 := HW8.out
  go_wp2_with fail
  clear hw8
  have HB2 := Lib.hid (HB0.out.alloc HB0.out.size (.cells #[.int .u8 (k.toNat : Int)] 5))
  have HG2 := Lib.hid (old_alloc HG0.out (.cells #[.int .u8 (k.toNat : Int)] 5))
  have hop2 := heap_alloc_new (w.alloc (.cells cs 44)) (.cells #[.int .u8 (k.toNat : Int)] 5)
  rw [World.size_alloc] at hop2
  have HP2 := Lib.hid hop2
  have HZ2 : Hid (((w.alloc (.cells cs 44)).alloc (.cells #[.int .u8 (k.toNat : Int)] 5)).heap.size = w.heap.size + 2) := by show _ = _; simp
  clear hop2 HG0
  generalize (w.alloc (.cells cs 44)).alloc (.cells #[.int .u8 (k.toNat : Int)] 5) = w2 at HB2 HG2 HP2 HZ2 ⊢
  have HC : Hid (Calls Try.prog 20 #[.slice (some ⟨w2.heap.size + 1, 0, none⟩) 6 6] (((w2.alloc (.cells #[.int .u8 0, .int .u8 1, .int .u8 8, .int .u8 0, .int .u8 6, .int .u8 4, .int .u8 0] 5 (7, 8))).alloc (.cells #[.slice (some ⟨w2.heap.size, 0, none⟩) 7 7, .slice (some ⟨w.heap.size + 1, 0, none⟩) 1 1, .slice (some ⟨w.heap.size, 1, none⟩) 6 6, .slice (some ⟨w.heap.size, 7, none⟩) 4 4, .slice (some ⟨w.heap.size, 11, none⟩) 6 6, .slice (some ⟨w.heap.size, 17, none⟩) 4 4] 25)).drew)
      fun e w' => ∃ A' c', e = .returned (.slice A' (⟨o, m, i, p, j⟩ : Ar).bytes.length c') ∧ OwnB w' (w2.heap.size + 2) (.slice A' (⟨o, m, i, p, j⟩ : Ar).bytes.length c') (⟨o, m, i, p, j⟩ : Ar).bytes ∧ Below (w2.heap.size + 2) (((w2.alloc (.cells #[.int .u8 0, .int .u8 1, .int .u8 8, .int .u8 0, .int .u8 6, .int .u8 4, .int .u8 0] 5 (7, 8))).alloc (.cells #[.slice (some ⟨w2.heap.size, 0, none⟩) 7 7, .slice (some ⟨w.heap.size + 1, 0, none⟩) 1 1, .slice (some ⟨w.heap.size, 1, none⟩) 6 6, .slice (some ⟨w.heap.size, 7, none⟩) 4 4, .slice (some ⟨w.heap.size, 11, none⟩) 6 6, .slice (some ⟨w.heap.size, 17, none⟩) 4 4] 25)).drew) w') := by
    obtain ⟨f1, f2, f3, f4⟩ := HF.out
    obtain ⟨hm, hi, hp, hj⟩ := HOK.out
    simp only at hm hi hp hj
    have hz2 := HZ2.out
    have hz5 : (((w2.alloc (.cells #[.int .u8 0, .int .u8 1, .int .u8 8, .int .u8 0, .int .u8 6, .int .u8 4, .int .u8 0] 5 (7, 8))).alloc (.cells #[.slice (some ⟨w2.heap.size, 0, none⟩) 7 7, .slice (some ⟨w.heap.size + 1, 0, none⟩) 1 1, .slice (some ⟨w.heap.size, 1, none⟩) 6 6, .slice (some ⟨w.heap.size, 7, none⟩) 4 4, .slice (some ⟨w.heap.size, 11, none⟩) 6 6, .slice (some ⟨w.heap.size, 17, none⟩) 4 4] 25)).drew).heap.size = w2.heap.size + 2 := by
      show ((w2.alloc (.cells #[.int .u8 0, .int .u8 1, .int .u8 8, .int .u8 0, .int .u8 6, .int .u8 4, .int .u8 0] 5 (7, 8))).alloc (.cells #[.slice (some ⟨w2.heap.size, 0, none⟩) 7 7, .slice (some ⟨w.heap.size + 1, 0, none⟩) 1 1, .slice (some ⟨w.heap.size, 1, none⟩) 6 6, .slice (some ⟨w.heap.size, 7, none⟩) 4 4, .slice (some ⟨w.heap.size, 11, none⟩) 6 6, .slice (some ⟨w.heap.size, 17, none⟩) 4 4] 25)).heap.size = _
      simp
    have hn0 := (((rd_new w2 (cells headB) 5 (7, 8)).wide (lo' := 0) (hi' := w2.heap.size + 1) (Nat.zero_le _) (Nat.le_refl _)).alloc (by simp) (.cells #[.slice (some ⟨w2.heap.size, 0, none⟩) 7 7, .slice (some ⟨w.heap.size + 1, 0, none⟩) 1 1, .slice (some ⟨w.heap.size, 1, none⟩) 6 6, .slice (some ⟨w.heap.size, 7, none⟩) 4 4, .slice (some ⟨w.heap.size, 11, none⟩) 6 6, .slice (some ⟨w.heap.size, 17, none⟩) 4 4] 25)).drew
    have hn1 := rd_new (w2.alloc (.cells #[.int .u8 0, .int .u8 1, .int .u8 8, .int .u8 0, .int .u8 6, .int .u8 4, .int .u8 0] 5 (7, 8))) [.slice (some ⟨w2.heap.size, 0, none⟩) 7 7, .slice (some ⟨w.heap.size + 1, 0, none⟩) 1 1, .slice (some ⟨w.heap.size, 1, none⟩) 6 6, .slice (some ⟨w.heap.size, 7, none⟩) 4 4, .slice (some ⟨w.heap.size, 11, none⟩) 6 6, .slice (some ⟨w.heap.size, 17, none⟩) 4 4] 25 (0, 0)
    rw [World.size_alloc] at hn1
    have rd : ∀ o xs, (∀ k u, xs[k]? = some u → cs[o + k]? = some u) → Rd (((w2.alloc (.cells #[.int .u8 0, .int .u8 1, .int .u8 8, .int .u8 0, .int .u8 6, .int .u8 4, .int .u8 0] 5 (7, 8))).alloc (.cells #[.slice (some ⟨w2.heap.size, 0, none⟩) 7 7, .slice (some ⟨w.heap.size + 1, 0, none⟩) 1 1, .slice (some ⟨w.heap.size, 1, none⟩) 6 6, .slice (some ⟨w.heap.size, 7, none⟩) 4 4, .slice (some ⟨w.heap.size, 11, none⟩) 6 6, .slice (some ⟨w.heap.size, 17, none⟩) 4 4] 25)).drew) 0 (w2.heap.size + 1) (some ⟨w.heap.size, o, none⟩) xs := fun o xs h =>
      ((((rd_mid HG2.out h).wide (lo' := 0) (hi' := w2.heap.size) (Nat.zero_le _) (by omega)).alloc (Nat.le_refl _) (.cells #[.int .u8 0, .int .u8 1, .int .u8 8, .int .u8 0, .int .u8 6, .int .u8 4, .int .u8 0] 5 (7, 8))).alloc (by simp) (.cells #[.slice (some ⟨w2.heap.size, 0, none⟩) 7 7, .slice (some ⟨w.heap.size + 1, 0, none⟩) 1 1, .slice (some ⟨w.heap.size, 1, none⟩) 6 6, .slice (some ⟨w.heap.size, 7, none⟩) 4 4, .slice (some ⟨w.heap.size, 11, none⟩) 6 6, .slice (some ⟨w.heap.size, 17, none⟩) 4 4] 25)).drew.wide (Nat.le_refl _) (by omega)
    have ro : Rd (((w2.alloc (.cells #[.int .u8 0, .int .u8 1, .int .u8 8, .int .u8 0, .int .u8 6, .int .u8 4, .int .u8 0] 5 (7, 8))).alloc (.cells #[.slice (some ⟨w2.heap.size, 0, none⟩) 7 7, .slice (some ⟨w.heap.size + 1, 0, none⟩) 1 1, .slice (some ⟨w.heap.size, 1, none⟩) 6 6, .slice (some ⟨w.heap.size, 7, none⟩) 4 4, .slice (some ⟨w.heap.size, 11, none⟩) 6 6, .slice (some ⟨w.heap.size, 17, none⟩) 4 4] 25)).drew) 0 (w2.heap.size + 1) (some ⟨w.heap.size + 1, 0, none⟩) (cells [k]) :=
      ((((rd_mid (cs := #[.int .u8 (k.toNat : Int)]) HP2.out (xs := cells [k]) (fun q u hu => by simpa [cells] using hu)).wide (lo' := 0) (hi' := w2.heap.size) (Nat.zero_le _) (by omega)).alloc (Nat.le_refl _) (.cells #[.int .u8 0, .int .u8 1, .int .u8 8, .int .u8 0, .int .u8 6, .int .u8 4, .int .u8 0] 5 (7, 8))).alloc (by simp) (.cells #[.slice (some ⟨w2.heap.size, 0, none⟩) 7 7, .slice (some ⟨w.heap.size + 1, 0, none⟩) 1 1, .slice (some ⟨w.heap.size, 1, none⟩) 6 6, .slice (some ⟨w.heap.size, 7, none⟩) 4 4, .slice (some ⟨w.heap.size, 11, none⟩) 6 6, .slice (some ⟨w.heap.size, 17, none⟩) 4 4] 25)).drew.wide (Nat.le_refl _) (by omega)
    have hbits : Bits (((w2.alloc (.cells #[.int .u8 0, .int .u8 1, .int .u8 8, .int .u8 0, .int .u8 6, .int .u8 4, .int .u8 0] 5 (7, 8))).alloc (.cells #[.slice (some ⟨w2.heap.size, 0, none⟩) 7 7, .slice (some ⟨w.heap.size + 1, 0, none⟩) 1 1, .slice (some ⟨w.heap.size, 1, none⟩) 6 6, .slice (some ⟨w.heap.size, 7, none⟩) 4 4, .slice (some ⟨w.heap.size, 11, none⟩) 6 6, .slice (some ⟨w.heap.size, 17, none⟩) 4 4] 25)).drew) 0 (w2.heap.size + 1) [.slice (some ⟨w2.heap.size, 0, none⟩) headB.length 7, .slice (some ⟨w.heap.size + 1, 0, none⟩) [k].length 1, .slice (some ⟨w.heap.size, 1, none⟩) m.length 6, .slice (some ⟨w.heap.size, 7, none⟩) i.length 4, .slice (some ⟨w.heap.size, 11, none⟩) p.length 6, .slice (some ⟨w.heap.size, 17, none⟩) j.length 4] [headB, [k], m, i, p, j] :=
      .cons hn0 (fun h => by cases h) (.cons ro (fun h => by cases h) (.cons (rd 1 _ f1) (fun h => by cases h) (.cons (rd 7 _ f2) (fun h => by cases h) (.cons (rd 11 _ f3) (fun h => by cases h) (.cons (rd 17 _ f4) (fun h => by cases h) .nil)))))
    rw [hm, hi, hp, hj] at hbits
    have := concat6 ⟨w2.heap.size + 1, 0, none⟩ _ _ _ _ _ _ (w2.heap.size + 1) (w2.heap.size + 1 + 1) 0 (w2.heap.size + 1) headB [k] m i p j (((w2.alloc (.cells #[.int .u8 0, .int .u8 1, .int .u8 8, .int .u8 0, .int .u8 6, .int .u8 4, .int .u8 0] 5 (7, 8))).alloc (.cells #[.slice (some ⟨w2.heap.size, 0, none⟩) 7 7, .slice (some ⟨w.heap.size + 1, 0, none⟩) 1 1, .slice (some ⟨w.heap.size, 1, none⟩) 6 6, .slice (some ⟨w.heap.size, 7, none⟩) 4 4, .slice (some ⟨w.heap.size, 11, none⟩) 6 6, .slice (some ⟨w.heap.size, 17, none⟩) 4 4] 25)).drew) hn1.drew hbits (by rw [hz5]; exact Nat.le_refl _) (by rw [hz5]; omega) (by rw [hm, hi, hp, hj]; simp [headB])
    rw [hz5, ← HFB.out] at this
    exact this
  have kc := conv_const_drew
  go_region_with (go_at_call 20; refine HC.out.mono ?_; rintro e w3 ⟨A3, c3, rfl, ho3, hb3⟩)
  all_goals
    have HO3 : Hid (OwnB w3 w.heap.size (.slice A3 (⟨o, m, i, p, j⟩ : Ar).bytes.length c3) (⟨o, m, i, p, j⟩ : Ar).bytes) := own_base ho3 (by have := HZ2.out; omega)
    have HB3 : Hid (Below w.heap.size w w3) := (((HB2.out.alloc HB2.out.size (.cells #[.int .u8 0, .int .u8 1, .int .u8 8, .int .u8 0, .int .u8 6, .int .u8 4, .int .u8 0] 5 (7, 8))).alloc ((HB2.out.alloc HB2.out.size (.cells #[.int .u8 0, .int .u8 1, .int .u8 8, .int .u8 0, .int .u8 6, .int .u8 4, .int .u8 0] 5 (7, 8))).size) (.cells #[.slice (some ⟨w2.heap.size, 0, none⟩) 7 7, .slice (some ⟨w.heap.size + 1, 0, none⟩) 1 1, .slice (some ⟨w.heap.size, 1, none⟩) 6 6, .slice (some ⟨w.heap.size, 7, none⟩) 4 4, .slice (some ⟨w.heap.size, 11, none⟩) 6 6, .slice (some ⟨w.heap.size, 17, none⟩) 4 4] 25)).drew).trans (hb3.mono (by have := HZ2.out; omega))
    clear ho3 hb3 kc
    go_wp2
    go_ret2
    exact ⟨A3, c3, rfl, HO3.out, HB3.out⟩

/-- ether.BuildArp, all of it -/
theorem buildarp_any (cs : Array Value) (a : Ar) (w : World) (h : ArV cs a) :
    Calls Try.prog 15 #[.agg cs] w (OwnPost w (buildA a)) := by
  by_cases hk : knownB a.o = true
  · have e1 : buildA a = (a.bytes, 0) := by unfold buildA; rw [if_pos hk]
    rw [e1]
    exact buildarp_fits cs a w h hk
  · have e1 : buildA a = ([], 1) := by unfold buildA; rw [if_neg hk]
    refine (buildarp_arg cs a.o w (by rw [h.1]; simp [arC]) (by simpa using hk)).mono ?_
    rintro e w' ⟨rfl, hb⟩
    exact own_none e1 hb
end Go.Proofs.Ytooepllgefndnaa
