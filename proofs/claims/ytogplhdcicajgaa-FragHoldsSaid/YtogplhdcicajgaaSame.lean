/-
  Whether two hosts' addresses are the same; caravelref06.Same: whether two packets are one. Every two packets that can be read.
-/
import Derived.Test.YtogplhdcicajgaaPv
import Derived.Laws.StructEq
import Derived.Lib.Strings
namespace Go.Proofs.Ytogplhdcicajgaa
open Go.RowKit

abbrev ipv (x0 x1 x2 x3 : UInt8) : Array Value := #[.int .u8 (x0.toNat : Int), .int .u8 (x1.toNat : Int), .int .u8 (x2.toNat : Int), .int .u8 (x3.toNat : Int)]
theorem part_byte (xs : Array Value) (off : Nat) (v : Value) (h : xs[off]? = some v) (w : World) : (part 5 xs off).run Try.prog w = .ok v w := by
  have ha : (isAgg 5).run Try.prog w = .ok false w := by kernel_rfl
  unfold part
  simp [Sem.run_bind, ha, h]
theorem eq_byte (d : Nat) (x y : UInt8) (w : World) : (Op.equalIn (d + 1) 5 (.int .u8 (x.toNat : Int)) (.int .u8 (y.toNat : Int))).run Try.prog w = .ok (x == y) w := by
  rw [run_equalIn_int w d _ .u8 .u8 _ _ Try.underlying5]
  congr 1
  rw [Bool.eq_iff_iff, beq_iff_eq, beq_iff_eq]
  constructor
  · exact fun h => UInt8.toNat_inj.1 (Int.ofNat.inj h)
  · rintro rfl
    rfl
theorem eq_ip (d : Nat) (x0 x1 x2 x3 y0 y1 y2 y3 : UInt8) (w : World) :
    (Op.equalIn (d + 2) 24 (.agg (ipv x0 x1 x2 x3)) (.agg (ipv y0 y1 y2 y3))).run Try.prog w = .ok ((x0 == y0 && (x1 == y1 && (x2 == y2 && x3 == y3)))) w := by
  have hs : ∀ w, (Go.sizeOf 5).run Try.prog w = .ok 1 w := fun w => by kernel_rfl
  have p0 : ∀ (x0 x1 x2 x3 : UInt8) (w : World), (part 5 (ipv x0 x1 x2 x3) 0).run Try.prog w = .ok (.int .u8 (x0.toNat : Int)) w := fun x0 x1 x2 x3 w => part_byte _ _ _ rfl w
  have p1 : ∀ (x0 x1 x2 x3 : UInt8) (w : World), (part 5 (ipv x0 x1 x2 x3) 1).run Try.prog w = .ok (.int .u8 (x1.toNat : Int)) w := fun x0 x1 x2 x3 w => part_byte _ _ _ rfl w
  have p2 : ∀ (x0 x1 x2 x3 : UInt8) (w : World), (part 5 (ipv x0 x1 x2 x3) 2).run Try.prog w = .ok (.int .u8 (x2.toNat : Int)) w := fun x0 x1 x2 x3 w => part_byte _ _ _ rfl w
  have p3 : ∀ (x0 x1 x2 x3 : UInt8) (w : World), (part 5 (ipv x0 x1 x2 x3) 3).run Try.prog w = .ok (.int .u8 (x3.toNat : Int)) w := fun x0 x1 x2 x3 w => part_byte _ _ _ rfl w
  rw [show d + 2 = (d + 1) + 1 from rfl, Op.equalIn]
  simp only [Sem.run_bind, run_underlying Try.underlying24, Result.andThen_ok, hs]
  simp only [Std.Legacy.Range.forIn_eq_forIn_range', Std.Legacy.Range.size]
  simp [List.range', p0, p1, p2, p3, eq_byte]
  by_cases h0 : x0 = y0
  all_goals try simp [h0]
  by_cases h1 : x1 = y1
  all_goals try simp [h1]
  by_cases h2 : x2 = y2
  all_goals try simp [h2]
  by_cases h3 : x3 = y3
  all_goals try simp [h3]
theorem eqv_ip (d : Nat) (x0 x1 x2 x3 y0 y1 y2 y3 : UInt8) (v : Bool) (h : decide ([x0, x1, x2, x3] = [y0, y1, y2, y3]) = v) (w : World) :
    (Op.equalIn (d + 2) 24 (.agg (ipv x0 x1 x2 x3)) (.agg (ipv y0 y1 y2 y3))).run Try.prog w = .ok v w := by
  rw [eq_ip, ← h]
  congr 1
  rw [Bool.eq_iff_iff]
  simp
theorem texts_ne {s t : List UInt8} (h : s ≠ t) : (s == t) = false ∧ ((⟨s.toArray⟩ : ByteArray).toList == (⟨t.toArray⟩ : ByteArray).toList) = false := by
  have h1 : (s == t) = false := by rw [beq_eq_false_iff_ne]; exact h
  refine ⟨h1, ?_⟩
  rw [Lib.toList_data, Lib.toList_data]
  exact h1

set_option maxRecDepth 100000 in
set_option maxHeartbeats 4000000 in
theorem same_lit (cs ds : Array Value) (id id' : Nat) (mr mr' : Bool) (off off' : Int) (ttl ttl' proto proto' s0 s1 s2 s3 d0 d1 d2 d3 s0' s1' s2' s3' d0' d1' d2' d3' : UInt8) (data data' : List UInt8) (A A' : Option Addr) (n n' c c' lo hi lo' hi' : Nat) (w : World)
    (g0 : cs[0]? = some (.int .u16 (id : Int))) (g1 : cs[1]? = some (.bool mr)) (g2 : cs[2]? = some (.int .i64 off)) (g3 : cs[3]? = some (.int .u8 (ttl.toNat : Int))) (g4 : cs[4]? = some (.int .u8 (proto.toNat : Int))) (g5 : cs[5]? = some (.int .u8 (s0.toNat : Int))) (g6 : cs[6]? = some (.int .u8 (s1.toNat : Int))) (g7 : cs[7]? = some (.int .u8 (s2.toNat : Int))) (g8 : cs[8]? = some (.int .u8 (s3.toNat : Int))) (g9 : cs[9]? = some (.int .u8 (d0.toNat : Int))) (g10 : cs[10]? = some (.int .u8 (d1.toNat : Int))) (g11 : cs[11]? = some (.int .u8 (d2.toNat : Int))) (g12 : cs[12]? = some (.int .u8 (d3.toNat : Int))) (g13 : cs[13]? = some (.slice A n c))
    (k0 : ds[0]? = some (.int .u16 (id' : Int))) (k1 : ds[1]? = some (.bool mr')) (k2 : ds[2]? = some (.int .i64 off')) (k3 : ds[3]? = some (.int .u8 (ttl'.toNat : Int))) (k4 : ds[4]? = some (.int .u8 (proto'.toNat : Int))) (k5 : ds[5]? = some (.int .u8 (s0'.toNat : Int))) (k6 : ds[6]? = some (.int .u8 (s1'.toNat : Int))) (k7 : ds[7]? = some (.int .u8 (s2'.toNat : Int))) (k8 : ds[8]? = some (.int .u8 (s3'.toNat : Int))) (k9 : ds[9]? = some (.int .u8 (d0'.toNat : Int))) (k10 : ds[10]? = some (.int .u8 (d1'.toNat : Int))) (k11 : ds[11]? = some (.int .u8 (d2'.toNat : Int))) (k12 : ds[12]? = some (.int .u8 (d3'.toNat : Int))) (k13 : ds[13]? = some (.slice A' n' c'))
    (hr : Rd w lo hi A (cells data)) (hr' : Rd w lo' hi' A' (cells data')) (hn : data.length = n) (hn' : data'.length = n') (hhi : hi ≤ w.heap.size) (hhi' : hi' ≤ w.heap.size) :
    Calls Try.prog 8 #[.agg cs, .agg ds] w fun e w' => e = .returned (.bool (pkEq ⟨id, mr, off, ttl, proto, [s0, s1, s2, s3], [d0, d1, d2, d3], data⟩ ⟨id', mr', off', ttl', proto', [s0', s1', s2', s3'], [d0', d1', d2', d3'], data'⟩)) ∧ Below w.heap.size w w' := by
  have HB := Lib.hid (((Below.refl w.heap.size w).alloc (Nat.le_refl _) (.cells cs 27)).alloc (by simp) (.cells ds 27))
  have hr2 := (hr.alloc hhi (.cells cs 27)).alloc (by simp; omega) (.cells ds 27)
  have hr3 := (hr'.alloc hhi' (.cells cs 27)).alloc (by simp; omega) (.cells ds 27)
  have ht1 := run_text (P := Try.prog) _ 25 9 5 c Try.underlying25 Try.underlying5 Try.underlying9 hr2
  have ht2 := run_text (P := Try.prog) _ 25 9 5 c' Try.underlying25 Try.underlying5 Try.underlying9 hr3
  rw [hn] at ht1
  rw [hn'] at ht2
  have HE := Lib.hid (rfl : pkEq ⟨id, mr, off, ttl, proto, [s0, s1, s2, s3], [d0, d1, d2, d3], data⟩ ⟨id', mr', off', ttl', proto', [s0', s1', s2', s3'], [d0', d1', d2', d3'], data'⟩ = decide (id = id' ∧ mr = mr' ∧ off = off' ∧ ttl = ttl' ∧ proto = proto' ∧ [s0, s1, s2, s3] = [s0', s1', s2', s3'] ∧ [d0, d1, d2, d3] = [d0', d1', d2', d3'] ∧ data = data'))
  clear hr hr' hr2 hr3 hn hn' hhi hhi'
  by_cases e1 : id = id'
  · have q1 := beqT (show (id : Int) = (id' : Int) by omega)
    by_cases e2 : mr = mr'
    · have q2 : (mr == mr') = true := by simp [e2]
      by_cases e3 : off = off'
      · have q3 := beqT e3
        by_cases e4 : ttl = ttl'
        · have q4 := beqT (show (ttl.toNat : Int) = (ttl'.toNat : Int) from by rw [e4])
          by_cases e5 : proto = proto'
          · have q5 := beqT (show (proto.toNat : Int) = (proto'.toNat : Int) from by rw [e5])
            by_cases e6 : [s0, s1, s2, s3] = [s0', s1', s2', s3']
            · have q6 := eqv_ip 9998 s0 s1 s2 s3 s0' s1' s2' s3' true (decide_eq_true e6)
              by_cases e7 : [d0, d1, d2, d3] = [d0', d1', d2', d3']
              · have q7 := eqv_ip 9998 d0 d1 d2 d3 d0' d1' d2' d3' true (decide_eq_true e7)
                by_cases e8 : data = data'
                · have HV := Lib.hid (HE.out.trans (decide_eq_true ⟨e1, e2, e3, e4, e5, e6, e7, e8⟩))
                  subst e8
                  clear e1 e2 e3 e4 e5 e6 e7 HE
                  go_enter Try.func8, Try.ntmps8
                  go_wp2
                  go_ret
                  exact ⟨by rw [HV.out]; rfl, HB.out⟩
                · have HV := Lib.hid (HE.out.trans (decide_eq_false fun h => e8 h.2.2.2.2.2.2.2))
                  obtain ⟨q8, q9⟩ := texts_ne e8
                  clear e1 e2 e3 e4 e5 e6 e7 e8 HE
                  go_enter Try.func8, Try.ntmps8
                  go_wp2
                  go_ret
                  exact ⟨by rw [HV.out]; rfl, HB.out⟩
              · have q7 := eqv_ip 9998 d0 d1 d2 d3 d0' d1' d2' d3' false (decide_eq_false e7)
                have HV := Lib.hid (HE.out.trans (decide_eq_false fun h => e7 h.2.2.2.2.2.2.1))
                clear e1 e2 e3 e4 e5 e6 e7 HE ht1 ht2
                go_enter Try.func8, Try.ntmps8
                go_wp2
                go_ret
                exact ⟨by rw [HV.out]; rfl, HB.out⟩
            · have q6 := eqv_ip 9998 s0 s1 s2 s3 s0' s1' s2' s3' false (decide_eq_false e6)
              have HV := Lib.hid (HE.out.trans (decide_eq_false fun h => e6 h.2.2.2.2.2.1))
              clear e1 e2 e3 e4 e5 e6 HE ht1 ht2
              go_enter Try.func8, Try.ntmps8
              go_wp2
              go_ret
              exact ⟨by rw [HV.out]; rfl, HB.out⟩
          · have q5 := beqF (show ¬ (proto.toNat : Int) = (proto'.toNat : Int) from (fun h => e5 (UInt8.toNat_inj.1 (Int.ofNat.inj h))))
            have HV := Lib.hid (HE.out.trans (decide_eq_false fun h => e5 h.2.2.2.2.1))
            clear e1 e2 e3 e4 e5 HE ht1 ht2
            go_enter Try.func8, Try.ntmps8
            go_wp2
            go_ret
            exact ⟨by rw [HV.out]; rfl, HB.out⟩
        · have q4 := beqF (show ¬ (ttl.toNat : Int) = (ttl'.toNat : Int) from (fun h => e4 (UInt8.toNat_inj.1 (Int.ofNat.inj h))))
          have HV := Lib.hid (HE.out.trans (decide_eq_false fun h => e4 h.2.2.2.1))
          clear e1 e2 e3 e4 HE ht1 ht2
          go_enter Try.func8, Try.ntmps8
          go_wp2
          go_ret
          exact ⟨by rw [HV.out]; rfl, HB.out⟩
      · have q3 := beqF e3
        have HV := Lib.hid (HE.out.trans (decide_eq_false fun h => e3 h.2.2.1))
        clear e1 e2 e3 HE ht1 ht2
        go_enter Try.func8, Try.ntmps8
        go_wp2
        go_ret
        exact ⟨by rw [HV.out]; rfl, HB.out⟩
    · have q2 : (mr == mr') = false := by simp [e2]
      have HV := Lib.hid (HE.out.trans (decide_eq_false fun h => e2 h.2.1))
      clear e1 e2 HE ht1 ht2
      go_enter Try.func8, Try.ntmps8
      go_wp2
      go_ret
      exact ⟨by rw [HV.out]; rfl, HB.out⟩
  · have q1 := beqF (show ¬ (id : Int) = (id' : Int) by omega)
    have HV := Lib.hid (HE.out.trans (decide_eq_false fun h => e1 h.1))
    clear e1 HE ht1 ht2
    go_enter Try.func8, Try.ntmps8
    go_wp2
    go_ret
    exact ⟨by rw [HV.out]; rfl, HB.out⟩

/-- Same, all of it -/
theorem same_any (cs ds : Array Value) (p q : Pk) (lo hi lo' hi' : Nat) (w : World) (h : PkV w lo hi cs p) (h' : PkV w lo' hi' ds q) (hhi : hi ≤ w.heap.size) (hhi' : hi' ≤ w.heap.size) :
    Calls Try.prog 8 #[.agg cs, .agg ds] w fun e w' => e = .returned (.bool (pkEq p q)) ∧ Below w.heap.size w w' := by
  obtain ⟨A, c, he, hok, _, hrd, _, _, _⟩ := h
  obtain ⟨A', c', he', hok', _, hrd', _, _, _⟩ := h'
  obtain ⟨id, mr, off, ttl, proto, src, dst, data⟩ := p
  obtain ⟨id', mr', off', ttl', proto', src', dst', data'⟩ := q
  obtain ⟨_, hs, hd⟩ := hok
  obtain ⟨_, hs', hd'⟩ := hok'
  simp only at hs hd hs' hd' hrd hrd' he he'
  obtain ⟨s0, s1, s2, s3, rfl⟩ := four_of src hs
  obtain ⟨d0, d1, d2, d3, rfl⟩ := four_of dst hd
  obtain ⟨s0', s1', s2', s3', rfl⟩ := four_of src' hs'
  obtain ⟨d0', d1', d2', d3', rfl⟩ := four_of dst' hd'
  exact same_lit cs ds id id' mr mr' off off' ttl ttl' proto proto' s0 s1 s2 s3 d0 d1 d2 d3 s0' s1' s2' s3' d0' d1' d2' d3' data data' A A' data.length data'.length c c' lo hi lo' hi' w (by subst he; rfl) (by subst he; rfl) (by subst he; rfl) (by subst he; rfl) (by subst he; rfl) (by subst he; rfl) (by subst he; rfl) (by subst he; rfl) (by subst he; rfl) (by subst he; rfl) (by subst he; rfl) (by subst he; rfl) (by subst he; rfl) (by subst he; rfl) (by subst he'; rfl) (by subst he'; rfl) (by subst he'; rfl) (by subst he'; rfl) (by subst he'; rfl) (by subst he'; rfl) (by subst he'; rfl) (by subst he'; rfl) (by subst he'; rfl) (by subst he'; rfl) (by subst he'; rfl) (by subst he'; rfl) (by subst he'; rfl) (by subst he'; rfl) hrd hrd' rfl rfl hhi hhi'
end Go.Proofs.Ytogplhdcicajgaa
