/-
  The law DgramDatagrams: every Datagram, every two hosts, every slice of bytes. No condition.
-/
import Derived.Test.YthkpkhhnlenioaaRefD
import Derived.ArgAppend
import Derived.Deep.DeepCutAuto
import Derived.Test.YthkpkhhnlenioaaRelyG
namespace Go.Proofs.Ythkpkhhnlenioaa
open Go.RowKit

theorem run_appendE {P : Program} {ev : Operand → Value} {o : Oper} {w w' : World} (s x : Operand) (t : TypeId) (ho : o.op = .call { callee := .builtin .append, args := #[s, x], argTypes := #[t, t] }) {vs vx v : Value} (hs : ev s = vs) (hx : ev x = vx)
    (hr : (Builtin.append_ #[t, t] o.type #[vs, vx]).run P w = .ok v w') : (execOp ev o).run P w = .ok (.value v) w' := by
  unfold execOp
  simp only [ho, resolve, invoke, builtin, Sem.run_bind, Sem.run_pure, Result.andThen_ok, List.map_toArray, List.map_cons, List.map_nil, hs, hx, hr]
/-- 'append' onto a row of the call's own, which is owned still, as long as it was -/
theorem app_two {P : Program} {w : World} {base : Nat} {t ty e : TypeId} {i : TypeInfo} {z : Value} (ht : P.underlying t = some (.slice e)) (hi : P.info? e = some i) (hz : i.zero = some z) (hsize : i.size = 1) (hby : i.bytes = 1) (hzs : z.cells.size = 1)
    {g c n : Nat} {xs : List Value} (hown : w.ownsRow base e 1 (.slice (some ⟨g, 0, none⟩) n c) n xs)
    {A : Option Addr} {m k : Nat} {news : List Value} (hA : A = none → k = 0) (hl : news.length = m) {lo hi' : Nat} (hrd : Rd w lo hi' A news) (h1 : ∀ u ∈ news, u.oneCell' = true) (h63 : n + m ≤ maxLen) (hby2 : n + m ≤ 140737488355328) (hbase : base ≤ w.heap.size) :
    ∃ v' w', (Builtin.append_ #[t, t] ty #[.slice (some ⟨g, 0, none⟩) n c, .slice A m k]).run P w = .ok v' w' ∧ w'.ownsRow base e 1 v' (n + m) (xs ++ news) ∧ (∀ u, w.ownsRow base e 1 u n xs → w'.ownsRow base e 1 u n xs) ∧ Below base w w' := by
  rcases A with _ | ad
  · have e0 : news = [] := by
      rcases news with _ | ⟨u, r⟩
      · rfl
      · obtain ⟨ad, e, _⟩ := hrd 0 u rfl
        cases e
    subst e0
    have hm : m = 0 := hl.symm
    have hc : k = 0 := hA rfl
    subst hm hc
    exact ⟨_, w, run_append_owned_none (P := P) (w := w) base t ty e i 1 ht hi _ n xs hown, by simpa using hown, fun _ h => h, Below.refl _ _⟩
  · have hnews : ∀ j u, news[j]? = some u → w.cell? (ad.add j) = some u := fun j u hu => by
      obtain ⟨ad', e', _, _, hc⟩ := hrd j u hu
      cases e'
      exact hc
    obtain ⟨hxl, hown2⟩ := hown
    rcases hown2 with ⟨he, _⟩ | ⟨g', c', cur, he, hb, hg, hnc, hcm, hcs, htk⟩
    · cases he
    · injection he with e1 e2 e3
      injection e1 with e1
      injection e1 with e1
      subst e1 e3
      rw [Nat.mul_one] at hcs htk hxl
      by_cases hroom : n + m ≤ c
      · have hr := run_append_room (P := P) w t ty e i ht hi g n c cur hg ad m k news (by rw [hsize]; omega) hnews h1 hroom (by rw [hsize]; omega)
        rw [hsize, Nat.mul_one] at hr
        have hz0 := setRow_heap w g cur (cur.toList.take n ++ news ++ cur.toList.drop (n + news.length)).toArray e (0, 0) hg
        have hcl : cur.toList.length = c := by rw [← hcs]; simp
        have hsz : (cur.toList.take n ++ news ++ cur.toList.drop (n + news.length)).toArray.size = c := by
          simp only [List.size_toArray, List.length_append, List.length_take, List.length_drop, hcl]
          omega
        refine ⟨_, _, hr, ⟨by rw [List.length_append]; omega, .inr ⟨g, c, _, rfl, hb, hz0, hroom, hcm, by rw [hsz]; omega, ?_⟩⟩, fun u hu => ?_, below_setRow (Below.refl _ _) hb _⟩
        · show (cur.toList.take n ++ news ++ cur.toList.drop (n + news.length)).take ((n + m) * 1) = _
          rw [Nat.mul_one, htk, List.take_left' (by rw [List.length_append]; omega)]
        · rcases hu.2 with h0 | ⟨g2, c2, cur2, he2, hb2, hg2, hn2, hm2, hs2, ht2⟩
          · exact ⟨hu.1, .inl h0⟩
          · by_cases hgg : g2 = g
            · subst hgg
              rw [hg] at hg2
              injection hg2 with hg2
              injection hg2 with hg2 _ _
              subst hg2
              refine ⟨hu.1, .inr ⟨g2, c2, _, he2, hb2, hz0, hn2, hm2, by rw [hsz]; omega, ?_⟩⟩
              show (cur.toList.take n ++ news ++ cur.toList.drop (n + news.length)).take (n * 1) = _
              rw [Nat.mul_one, htk, List.append_assoc, List.take_left' (by omega)]
            · exact ⟨hu.1, .inr ⟨g2, c2, cur2, he2, hb2, (setRow_other w g g2 _ hgg).trans hg2, hn2, hm2, hs2, ht2⟩⟩
      · obtain ⟨v', w', hr, r1, r2⟩ := run_append_arg_grows (P := P) w t ty e i z 1 1 ht hi hz hsize hby hzs (by omega) ⟨g, 0, none⟩ n c xs (by omega) (fun j u hu => by
          have hj := (List.getElem?_eq_some_iff.1 hu).1
          rw [← htk, List.getElem?_take, if_pos (by omega)] at hu
          rw [Addr.add_lit, Nat.zero_add, cell_of_row _ _ _ _ _ _ hg]
          simpa using hu) ad m k news (by omega) hnews (by omega) h63 (by omega)
        have hbl : Below w.heap.size w w' := ⟨r2.os, r2.tape, r2.output, r2.size, fun k hk => r2.block k hk (by simp)⟩
        refine ⟨v', w', hr, own_base r1 hbase, fun u hu => ?_, hbl.mono hbase⟩
        rcases hu.2 with h0 | ⟨g2, c2, cur2, he2, hb2, hg2, hrest⟩
        · exact ⟨hu.1, .inl h0⟩
        · exact ⟨hu.1, .inr ⟨g2, c2, cur2, he2, hb2, (hbl.block _ (row_lt hg2)).trans hg2, hrest⟩⟩
/-- an empty slice that is not nil -/
def Emp : Pred := fun v _ => ∃ b0, v = .slice (some b0) 0 0
theorem emp_mono : Mono Emp := fun _ _ _ _ h => h
/-- a row of the call's own -/
def OwnL (B L : Nat) (bs : List UInt8) : Pred := fun v w => ∃ g c, v = .slice (some ⟨g, 0, none⟩) L c ∧ w.ownsRow B 5 1 (.slice (some ⟨g, 0, none⟩) L c) L (cells bs)
theorem ownL_mono (B L : Nat) (bs : List UInt8) : Mono (OwnL B L bs) := fun _ _ _ hb ⟨g, c, h1, h2⟩ => ⟨g, c, h1, own_below h2 hb (Nat.le_refl _)⟩
def DgP2 (B : Nat) (x : Dg) : Pred := fun v w => ∃ cs, v = .tuple #[dgM cs, .int .i64 0] ∧ DgC w B w.heap.size cs x
theorem dgP2_mono (B : Nat) (x : Dg) : Mono (DgP2 B x) := fun _ _ _ hb ⟨cs, h1, h2⟩ => ⟨cs, h1, (h2.below hb (Nat.le_refl _)).wide (Nat.le_refl _) hb.size⟩
def DgI2 (B : Nat) (x : Dg) : Pred := fun v w => ∃ cs, v = dgM cs ∧ DgC w B w.heap.size cs x
theorem dgI2_mono (B : Nat) (x : Dg) : Mono (DgI2 B x) := fun _ _ _ hb ⟨cs, h1, h2⟩ => ⟨cs, h1, (h2.below hb (Nat.le_refl _)).wide (Nat.le_refl _) hb.size⟩

set_option maxRecDepth 100000 in
set_option maxHeartbeats 4000000 in
theorem datagrams_any (cs : Array Value) (x : Dg) (s0 s1 s2 s3 d0 d1 d2 d3 : UInt8) (A2 : Option Addr) (l : List UInt8) (n2 c2 : Nat) (w : World) (hx : DgC w 0 w.heap.size cs x) (hl2 : n2 = l.length) (hr2 : Rd w 0 w.heap.size A2 (cells l)) (hc2 : n2 ≤ c2) (hA2 : A2 = none → c2 = 0) :
    Calls Try.prog 4 #[.agg cs, .agg #[.int .u8 (s0.toNat : Int), .int .u8 (s1.toNat : Int), .int .u8 (s2.toNat : Int), .int .u8 (s3.toNat : Int), .int .u8 (d0.toNat : Int), .int .u8 (d1.toNat : Int), .int .u8 (d2.toNat : Int), .int .u8 (d3.toNat : Int)], .slice A2 n2 c2] w fun e w' => e = .returned (.bool true) ∧ Below w.heap.size w w' := by
  have hx2 := hx
  obtain ⟨A, c, rfl, hok, hrd, hlc, hcm, hA⟩ := hx2
  obtain ⟨n, hn⟩ : ∃ n, x.data.length = n := ⟨_, rfl⟩
  rw [hn] at hx hlc ⊢
  obtain ⟨w1, hw1⟩ : ∃ w1, (w.alloc (.cells #[.int .u16 (x.src : Int), .int .u16 (x.dst : Int), .slice A n c] 43)).alloc (.cells #[.int .u8 (s0.toNat : Int), .int .u8 (s1.toNat : Int), .int .u8 (s2.toNat : Int), .int .u8 (s3.toNat : Int), .int .u8 (d0.toNat : Int), .int .u8 (d1.toNat : Int), .int .u8 (d2.toNat : Int), .int .u8 (d3.toNat : Int)] 29) = w1 := ⟨_, rfl⟩
  have HB1 : Hid (Below w.heap.size w w1) := by show Below _ _ _; rw [← hw1]; exact ((Below.refl _ _).alloc (Nat.le_refl _) _).alloc (by simp) _
  have HX1 : Hid (w1.heap[w.heap.size]? = some (.cells #[.int .u16 (x.src : Int), .int .u16 (x.dst : Int), .slice A n c] 43 (0, 0))) := by show _ = _; rw [← hw1]; exact old_alloc (heap_alloc_new w _) _
  have HE1 : Hid (w1.heap[w.heap.size + 1]? = some (.cells #[.int .u8 (s0.toNat : Int), .int .u8 (s1.toNat : Int), .int .u8 (s2.toNat : Int), .int .u8 (s3.toNat : Int), .int .u8 (d0.toNat : Int), .int .u8 (d1.toNat : Int), .int .u8 (d2.toNat : Int), .int .u8 (d3.toNat : Int)] 29 (0, 0))) := by
    have := heap_alloc_new (w.alloc (.cells #[.int .u16 (x.src : Int), .int .u16 (x.dst : Int), .slice A n c] 43)) (.cells #[.int .u8 (s0.toNat : Int), .int .u8 (s1.toNat : Int), .int .u8 (s2.toNat : Int), .int .u8 (s3.toNat : Int), .int .u8 (d0.toNat : Int), .int .u8 (d1.toNat : Int), .int .u8 (d2.toNat : Int), .int .u8 (d3.toNat : Int)] 29)
    rw [World.size_alloc] at this
    show _ = _
    rw [← hw1]
    exact this
  have HX := Lib.hid hx
  have HN := Lib.hid hn
  have HOK := Lib.hid hok
  unfold maxLen at hcm
  clear hx hn hok hrd hA
  have HL2 := Lib.hid hl2
  have HR2 := Lib.hid hr2
  have HA2 := Lib.hid hA2
  clear hl2 hr2 hA2
  go_enter Try.func4, Try.ntmps4
  go_wp2_with fail
  refine (lives_any _).mono ?_
  rintro e w2 ⟨rfl, hb2⟩
  have HB2 := Lib.hid (HB1.out.trans (hb2.mono HB1.out.size))
  have HX2 : Hid (w2.heap[w.heap.size]? = some (.cells #[.int .u16 (x.src : Int), .int .u16 (x.dst : Int), .slice A n c] 43 (0, 0))) := (hb2.block _ (row_lt HX1.out)).trans HX1.out
  have HE2 : Hid (w2.heap[w.heap.size + 1]? = some (.cells #[.int .u8 (s0.toNat : Int), .int .u8 (s1.toNat : Int), .int .u8 (s2.toNat : Int), .int .u8 (s3.toNat : Int), .int .u8 (d0.toNat : Int), .int .u8 (d1.toNat : Int), .int .u8 (d2.toNat : Int), .int .u8 (d3.toNat : Int)] 29 (0, 0))) := (hb2.block _ (row_lt HE1.out)).trans HE1.out
  have k2 : w2.cell? ⟨w.heap.size, 2, none⟩ = some (.slice A n c) := cell_of_row _ _ 2 _ _ _ HX2.out
  clear hb2
  by_cases hbig : 1500 < n
  · go_wp2_with fail
    refine (lives_any _).mono ?_
    rintro e w3 ⟨rfl, hb3⟩
    have HB3 := Lib.hid (HB2.out.trans (hb3.mono HB2.out.size))
    clear hb3
    go_wp2
    go_ret
    exact ⟨rfl, HB3.out⟩
  by_cases hbig2 : 50 < n2
  · go_wp2_with fail
    refine (lives_any _).mono ?_
    rintro e w3 ⟨rfl, hb3⟩
    have HB3 := Lib.hid (HB2.out.trans (hb3.mono HB2.out.size))
    clear hb3
    go_wp2
    go_ret
    exact ⟨rfl, HB3.out⟩
  · go_wp2_with (first | refine wpList_load_row rfl 43 _ rfl w.heap.size rfl 43 #[.int .u16 (x.src : Int), .int .u16 (x.dst : Int), .slice A n c] (0, 0) _ HX2.out Try.underlying43 rfl (by kernel_rfl) ?_ | refine wpList_load_at rfl 27 _ rfl ⟨w.heap.size + 1, 0, none⟩ rfl [.int .u8 (s0.toNat : Int), .int .u8 (s1.toNat : Int), .int .u8 (s2.toNat : Int), .int .u8 (s3.toNat : Int)] _ (ends_at HE2.out).1 Try.underlying27 rfl (by kernel_rfl) ?_ | refine wpList_load_at rfl 27 _ rfl ⟨w.heap.size + 1, 4, none⟩ rfl [.int .u8 (d0.toNat : Int), .int .u8 (d1.toNat : Int), .int .u8 (d2.toNat : Int), .int .u8 (d3.toNat : Int)] _ (ends_at HE2.out).2 Try.underlying27 rfl (by kernel_rfl) ?_)
    clear k2
    refine (build_dg _ x s0 s1 s2 s3 d0 d1 d2 d3 0 w.heap.size w2 (HX.out.below HB2.out (Nat.le_refl _)) HB2.out.size).mono ?_
    have hcase : (dgBuild [s0, s1, s2, s3] [d0, d1, d2, d3] x = (x.bytes [s0, s1, s2, s3] [d0, d1, d2, d3], 0) ∧ n ≤ 992) ∨ dgBuild [s0, s1, s2, s3] [d0, d1, d2, d3] x = ([], 4) := by
      unfold dgBuild
      by_cases h9 : 992 < x.data.length
      · exact .inr (if_pos h9)
      · exact .inl ⟨if_neg h9, by have := HN.out; omega⟩
    obtain ⟨bs, z, hbz⟩ : ∃ bs z, dgBuild [s0, s1, s2, s3] [d0, d1, d2, d3] x = (bs, z) := ⟨_, _, rfl⟩
    rw [hbz] at hcase ⊢
    rintro e w3 ⟨A5, c5, rfl, ho, hb3⟩
    simp only at ho ⊢
    have HX3 : Hid (w3.heap[w.heap.size]? = some (.cells #[.int .u16 (x.src : Int), .int .u16 (x.dst : Int), .slice A n c] 43 (0, 0))) := (hb3.block _ (row_lt HX2.out)).trans HX2.out
    have HE3 : Hid (w3.heap[w.heap.size + 1]? = some (.cells #[.int .u8 (s0.toNat : Int), .int .u8 (s1.toNat : Int), .int .u8 (s2.toNat : Int), .int .u8 (s3.toNat : Int), .int .u8 (d0.toNat : Int), .int .u8 (d1.toNat : Int), .int .u8 (d2.toNat : Int), .int .u8 (d3.toNat : Int)] 29 (0, 0))) := (hb3.block _ (row_lt HE2.out)).trans HE2.out
    have HB3 := Lib.hid (HB2.out.trans (hb3.mono HB2.out.size))
    have hro := (Rd.own ho).wide (Nat.zero_le _) (Nat.le_refl _)
    have hcap := own_cap ho
    obtain ⟨nb, hL⟩ : ∃ nb, bs.length = nb := ⟨_, rfl⟩
    rw [hL] at hcap ⊢
    obtain ⟨hcap1, hcap2⟩ := hcap
    have HCP2 := Lib.hid hcap2
    have HL5 := Lib.hid hL
    have HRO := Lib.hid hro
    have HBZ := Lib.hid hbz
    clear ho hb3 hro hL hbz hcap2
    go_wp2_with (first | refine wpList_load_row rfl 43 _ rfl w.heap.size rfl 43 #[.int .u16 (x.src : Int), .int .u16 (x.dst : Int), .slice A n c] (0, 0) _ HX3.out Try.underlying43 rfl (by kernel_rfl) ?_ | refine wpList_load_at rfl 27 _ rfl ⟨w.heap.size + 1, 0, none⟩ rfl [.int .u8 (s0.toNat : Int), .int .u8 (s1.toNat : Int), .int .u8 (s2.toNat : Int), .int .u8 (s3.toNat : Int)] _ (ends_at HE3.out).1 Try.underlying27 rfl (by kernel_rfl) ?_ | refine wpList_load_at rfl 27 _ rfl ⟨w.heap.size + 1, 4, none⟩ rfl [.int .u8 (d0.toNat : Int), .int .u8 (d1.toNat : Int), .int .u8 (d2.toNat : Int), .int .u8 (d3.toNat : Int)] _ (ends_at HE3.out).2 Try.underlying27 rfl (by kernel_rfl) ?_)
    refine (refdg_any _ x s0 s1 s2 s3 d0 d1 d2 d3 0 w.heap.size w3 (HX.out.below HB3.out (Nat.le_refl _)) HB3.out.size (by rw [HN.out]; omega)).mono ?_
    rw [HBZ.out]
    rintro e w4 ⟨rfl, hb4⟩
    simp only
    have HX4 : Hid (w4.heap[w.heap.size]? = some (.cells #[.int .u16 (x.src : Int), .int .u16 (x.dst : Int), .slice A n c] 43 (0, 0))) := (hb4.block _ (row_lt HX3.out)).trans HX3.out
    have HE4 : Hid (w4.heap[w.heap.size + 1]? = some (.cells #[.int .u8 (s0.toNat : Int), .int .u8 (s1.toNat : Int), .int .u8 (s2.toNat : Int), .int .u8 (s3.toNat : Int), .int .u8 (d0.toNat : Int), .int .u8 (d1.toNat : Int), .int .u8 (d2.toNat : Int), .int .u8 (d3.toNat : Int)] 29 (0, 0))) := (hb4.block _ (row_lt HE3.out)).trans HE3.out
    have HB4 := Lib.hid (HB3.out.trans (hb4.mono HB3.out.size))
    have HRO4 := Lib.hid ((HRO.out.below hb4 (Nat.le_refl _)).wide (Nat.le_refl _) hb4.size)
    have ht := run_text (P := Try.prog) _ 23 9 5 c5 Try.underlying23 Try.underlying5 Try.underlying9 HRO4.out
    rw [HL5.out] at ht
    have qz := bneF (rfl : z = z)
    clear hb4
    rcases hcase with ⟨hce, hn9⟩ | hce
    · obtain ⟨rfl, rfl⟩ : bs = x.bytes [s0, s1, s2, s3] [d0, d1, d2, d3] ∧ z = 0 := by injection hce with h1 h2; exact ⟨h1, h2⟩
      have hLn : nb = 8 + n := by have h1 := HL5.out; rw [dg_length, HN.out] at h1; omega
      have HOPX : Hid (∀ m, dgOpen [s0, s1, s2, s3] [d0, d1, d2, d3] (x.bytes [s0, s1, s2, s3] [d0, d1, d2, d3] ++ m) = (x, 0)) := fun m => dg_open_bytes HOK.out rfl rfl (by rw [HN.out]; omega) m
      generalize x.bytes [s0, s1, s2, s3] [d0, d1, d2, d3] = bs at *
      have hw1 : IntKind.i64.wrap ((nb : Int) + (n2 : Int)) = (nb : Int) + (n2 : Int) := IntWalk.i64_in _ ⟨by omega, by omega⟩
      have HLn := Lib.hid hLn
      have hnb : 8 ≤ nb ∧ nb ≤ 1000 := by omega
      obtain ⟨hnb1, hnb2⟩ := hnb
      clear hLn hce
      go_upto_if 62 with (fail)
      go_cut [2] (fun t2 wx => ∃ (A3 : Option Addr) (n3 c3 : Nat) (l3 : List UInt8), t2 = .slice A3 n3 c3 ∧ n3 ≤ 50 ∧ nb + n3 ≤ 1000 ∧ n3 ≤ c3 ∧ Hid (l3.length = n3) ∧ Hid (Rd w4 0 w.heap.size A3 (cells l3)) ∧ Hid (A3 = none → c3 = 0) ∧ w4 = wx)
      case first =>
        by_cases hmore : 1000 < nb + n2
        · have hmz : (1000 : Int) < (nb : Int) + (n2 : Int) := by omega
          go_wp2_with fail
          go_meet
          case rel => exact ⟨none, 0, 0, [], rfl, by omega, by omega, by omega, Lib.hid rfl, Lib.hid (fun j u h => by simp [cells] at h), Lib.hid (fun _ => rfl), rfl⟩
        · have hmz : ¬ (1000 : Int) < (nb : Int) + (n2 : Int) := by omega
          go_wp2_with fail
          go_meet
          case rel => exact ⟨A2, n2, c2, l, rfl, by omega, by omega, hc2, Lib.hid HL2.out.symm, Lib.hid (HR2.out.below HB4.out (Nat.le_refl _)), HA2, rfl⟩
      case rest =>
      obtain ⟨A3, n3, c3, l3, rfl, hn3, hnb3, hc3, HL3, HR3, HA3, rfl⟩ := hcut
      obtain ⟨iU, hi1, hi2, hi3, hi4⟩ := info_parts info_u8
      have HIU := Lib.hid hi1
      have HZU := Lib.hid hi2
      have HSU := Lib.hid hi3
      have HBU := Lib.hid hi4
      have HZS : Hid ((Value.int .u8 0).cells.size = 1) := rfl
      have HOP : Hid (∀ (w' : World) (v : Value) (g c6 : Nat), v = Value.slice (some ⟨g, 0, none⟩) (nb + n3) c6 → Below w4.heap.size w4 w' → w'.ownsRow w4.heap.size 5 1 (.slice (some ⟨g, 0, none⟩) (nb + n3) c6) (nb + n3) (cells (bs ++ l3)) → Calls Try.prog 13 #[.int .u8 17, .agg #[.int .u8 (s0.toNat : Int), .int .u8 (s1.toNat : Int), .int .u8 (s2.toNat : Int), .int .u8 (s3.toNat : Int)], .agg #[.int .u8 (d0.toNat : Int), .int .u8 (d1.toNat : Int), .int .u8 (d2.toNat : Int), .int .u8 (d3.toNat : Int)], .slice (some ⟨g, 0, none⟩) (nb + n3) c6] w' (DgO w' (x, 0))) := fun w' v g c6 _ hb ho => by
        have := open_dg (some ⟨g, 0, none⟩) (bs ++ l3) (nb + n3) c6 w4.heap.size w'.heap.size s0 s1 s2 s3 d0 d1 d2 d3 w' (Rd.own ho) (by rw [List.length_append, HL5.out, HL3.out]) (own_cap ho).1 (own_cap ho).2 (Nat.le_refl _) hnb3
        rw [HOPX.out] at this
        exact this
      clear hi1 hi2 hi3 hi4 ht qz hw1 hbig hbig2
      go_wp2_with fail
      apply wp_region_relyG [8] (fun _ w' => Below w4.heap.size w4 w') (RL [Is (.pointer (some ⟨w.heap.size + 1, 0, none⟩)), Is (.agg #[.int .u8 (s0.toNat : Int), .int .u8 (s1.toNat : Int), .int .u8 (s2.toNat : Int), .int .u8 (s3.toNat : Int)]), Is (.pointer (some ⟨w.heap.size + 1, 4, none⟩)), Is (.agg #[.int .u8 (d0.toNat : Int), .int .u8 (d1.toNat : Int), .int .u8 (d2.toNat : Int), .int .u8 (d3.toNat : Int)]), Emp, Is (.slice A5 nb c5), OwnL w4.heap.size nb bs, Is (.slice A3 n3 c3), OwnL w4.heap.size (nb + n3) (bs ++ l3), DgP2 w4.heap.size x, DgP2 w4.heap.size x, DgI2 w4.heap.size x, Is (.int .i64 0), DgI2 w4.heap.size x, Is (.int .i64 0)]) [false, false, false, false, false, false, false, false, false, false, false, true, true, false, false, false, false, false, false, false, false, false, false, false, false, false, false, false, false, false, false, false, false, false, false, false, false, false, false, false, false, false, false, false, false, false, false, false, false, false, false, false, false, false, false, false, false, false, false, false, false, false, false, true, true, true, true, true, true, true, true, true, true, true, true, true, false, false, false, false, false, false, false, false]
      · kernel_rfl
      · kernel_rfl
      · kernel_rfl
      · refine ⟨?_, ?_, ?_, ?_, ?_, ?_, ?_, ?_, ?_, ?_, ?_, ?_, ?_, ?_, ?_, trivial⟩
        · intro L ev w' hC hL hx K hK
          have e4 : ev (.tmp 4) = _ := hx.base 4 (by kernel_rfl)
          have HK := Lib.hid hK
          have HC := Lib.hid hC
          have HL := Lib.hid hL
          have HX := Lib.hid hx
          have hc := hx.cst
          skip
          clear hx hK hC hL
          unfold Run
          simp [execOp, Upon, go_sem, *]
          exact HK.out _ _ (.inl ⟨Below.refl _ _, by decide⟩) rfl
        · intro L ev w' hC hL hx K hK
          have e64 := hx.held 0 _ rfl (by kernel_rfl)
          change ev (.tmp 64) = _ at e64
          have HK := Lib.hid hK
          have HC := Lib.hid hC
          have HL := Lib.hid hL
          have HX := Lib.hid hx
          have hc := hx.cst
          skip
          clear hx hK hC hL
          have hE := (HC.out.block _ (row_lt HE4.out)).trans HE4.out
          have hl := run_loadVar_at (P := Try.prog) w' ⟨w.heap.size + 1, 0, none⟩ 27 ([.int .u8 (s0.toNat : Int), .int .u8 (s1.toNat : Int), .int .u8 (s2.toNat : Int), .int .u8 (s3.toNat : Int)]) _ ((ends_at hE).1) Try.underlying27 rfl (by kernel_rfl)
          have q : ev (.tmp 64) = .pointer (some ⟨w.heap.size + 1, 0, none⟩) := e64
          unfold Run
          rw [run_loadE 27 _ rfl q hl]
          exact HK.out _ _ (.inl ⟨Below.refl _ _, by decide⟩) rfl
        · intro L ev w' hC hL hx K hK
          have e4 : ev (.tmp 4) = _ := hx.base 4 (by kernel_rfl)
          have HK := Lib.hid hK
          have HC := Lib.hid hC
          have HL := Lib.hid hL
          have HX := Lib.hid hx
          have hc := hx.cst
          skip
          clear hx hK hC hL
          unfold Run
          simp [execOp, Upon, go_sem, *]
          exact HK.out _ _ (.inl ⟨Below.refl _ _, by decide⟩) rfl
        · intro L ev w' hC hL hx K hK
          have e66 := hx.held 2 _ rfl (by kernel_rfl)
          change ev (.tmp 66) = _ at e66
          have HK := Lib.hid hK
          have HC := Lib.hid hC
          have HL := Lib.hid hL
          have HX := Lib.hid hx
          have hc := hx.cst
          skip
          clear hx hK hC hL
          have hE := (HC.out.block _ (row_lt HE4.out)).trans HE4.out
          have hl := run_loadVar_at (P := Try.prog) w' ⟨w.heap.size + 1, 4, none⟩ 27 ([.int .u8 (d0.toNat : Int), .int .u8 (d1.toNat : Int), .int .u8 (d2.toNat : Int), .int .u8 (d3.toNat : Int)]) _ ((ends_at hE).2) Try.underlying27 rfl (by kernel_rfl)
          have q : ev (.tmp 66) = .pointer (some ⟨w.heap.size + 1, 4, none⟩) := e66
          unfold Run
          rw [run_loadE 27 _ rfl q hl]
          exact HK.out _ _ (.inl ⟨Below.refl _ _, by decide⟩) rfl
        · intro L ev w' hC hL hx K hK
          have HK := Lib.hid hK
          have HC := Lib.hid hC
          have HL := Lib.hid hL
          have HX := Lib.hid hx
          have hc := hx.cst
          skip
          clear hx hK hC hL
          unfold Run
          simp [execOp, Upon, go_sem, *]
          exact HK.out _ _ (.inl ⟨(Below.refl _ _).alloc (Nat.le_refl _) _, by decide⟩) ⟨_, rfl⟩
        · intro L ev w' hC hL hx K hK
          have e7 : ev (.tmp 7) = _ := hx.base 7 (by kernel_rfl)
          have HK := Lib.hid hK
          have HC := Lib.hid hC
          have HL := Lib.hid hL
          have HX := Lib.hid hx
          have hc := hx.cst
          skip
          clear hx hK hC hL
          unfold Run
          simp [execOp, Upon, go_sem, *]
          exact HK.out _ _ (.inl ⟨Below.refl _ _, by decide⟩) rfl
        · intro L ev w' hC hL hx K hK
          have e68 := hx.held 4 _ rfl (by kernel_rfl)
          have e69 := hx.held 5 _ rfl (by kernel_rfl)
          change (Emp : Pred) (ev (.tmp 68)) w' at e68
          change ev (.tmp 69) = _ at e69
          have HK := Lib.hid hK
          have HC := Lib.hid hC
          have HL := Lib.hid hL
          have HX := Lib.hid hx
          have hc := hx.cst
          skip
          clear hx hK hC hL
          obtain ⟨b0, q68⟩ := e68
          have q69 : ev (.tmp 69) = .slice A5 nb c5 := e69
          obtain ⟨ad, hA5, hcell⟩ := copy_src (HRO4.out.below HC.out (Nat.le_refl _)) (by rw [HL5.out]; omega)
          subst hA5
          obtain ⟨v', w2, hrun, r1, r2⟩ := run_append_arg_grows (P := Try.prog) w' 23 23 5 iU (.int .u8 0) 1 1 Try.underlying23 HIU.out HZU.out HSU.out HBU.out HZS.out (by omega) b0 0 0 [] rfl (fun j u hu => by simp at hu) ad nb c5 (cells bs) (by rw [cells_length, HL5.out]; omega) hcell (by omega) (by unfold maxLen; omega) (by omega)
          have hbl : Below w'.heap.size w' w2 := ⟨r2.os, r2.tape, r2.output, r2.size, fun k hk => r2.block k hk (by simp)⟩
          obtain ⟨A6, c6, rfl⟩ := own_form r1
          rw [Nat.zero_add, List.nil_append] at r1
          unfold Run
          rw [run_appendE _ _ 23 rfl q68 q69 hrun]
          refine HK.out _ _ (.inl ⟨hbl, by decide⟩) ?_
          rcases r1.2 with ⟨he, h0⟩ | ⟨g, cap, cur, he, _⟩
          · omega
          · have he2 : A6 = some ⟨g, 0, none⟩ := by injection he
            subst he2
            show OwnL w4.heap.size nb bs _ _
            rw [Nat.zero_add]
            exact ⟨g, c6, rfl, own_base r1 HC.out.size⟩
        · intro L ev w' hC hL hx K hK
          have e2 : ev (.tmp 2) = _ := hx.base 2 (by kernel_rfl)
          have HK := Lib.hid hK
          have HC := Lib.hid hC
          have HL := Lib.hid hL
          have HX := Lib.hid hx
          have hc := hx.cst
          skip
          clear hx hK hC hL
          unfold Run
          simp [execOp, Upon, go_sem, *]
          exact HK.out _ _ (.inl ⟨Below.refl _ _, by decide⟩) rfl
        · intro L ev w' hC hL hx K hK
          have e70 := hx.held 6 _ rfl (by kernel_rfl)
          have e71 := hx.held 7 _ rfl (by kernel_rfl)
          change (OwnL w4.heap.size nb bs : Pred) (ev (.tmp 70)) w' at e70
          change ev (.tmp 71) = _ at e71
          have HK := Lib.hid hK
          have HC := Lib.hid hC
          have HL := Lib.hid hL
          have HX := Lib.hid hx
          have hc := hx.cst
          skip
          clear hx hK hC hL
          obtain ⟨g, c6, q70, r70⟩ := e70
          have q71 : ev (.tmp 71) = .slice A3 n3 c3 := e71
          obtain ⟨v', w2, hrun, r1, r2, r3⟩ := app_two (P := Try.prog) (ty := 23) Try.underlying23 HIU.out HZU.out HSU.out HBU.out HZS.out r70 HA3.out (by rw [cells_length, HL3.out]) (HR3.out.below HC.out HB4.out.size) (cells_one l3) (by unfold maxLen; omega) (by omega) HC.out.size
          unfold Run
          rw [run_appendE _ _ 23 rfl q70 q71 hrun]
          have n9 : ¬ L 9 = true := fun h => by have := HX.out.closed 9 _ 8 rfl h (by kernel_rfl); rw [HL.out] at this; cases this
          have n10 : ¬ L 10 = true := fun h => n9 (HX.out.closed 10 _ 9 rfl h (by kernel_rfl))
          have n11 : ¬ L 11 = true := fun h => n10 (HX.out.closed 11 _ 10 rfl h (by kernel_rfl))
          have n12 : ¬ L 12 = true := fun h => n10 (HX.out.closed 12 _ 10 rfl h (by kernel_rfl))
          have n13 : ¬ L 13 = true := fun h => n11 (HX.out.closed 13 _ 11 rfl h (by kernel_rfl))
          have n14 : ¬ L 14 = true := fun h => n12 (HX.out.closed 14 _ 12 rfl h (by kernel_rfl))
          refine HK.out _ _ (.inr ⟨HC.out.trans r3, fun j hj hlj u hr => ?_⟩) ?_
          · rcases j with _ | _ | _ | _ | _ | _ | _ | _ | _ | _ | _ | _ | _ | _ | _ | j
            · exact hr
            · exact hr
            · exact hr
            · exact hr
            · exact hr
            · exact hr
            · obtain ⟨g2, c2, h1, h2⟩ := hr
              exact ⟨g2, c2, h1, r2 _ h2⟩
            · exact hr
            · exact absurd rfl hj
            · exact absurd hlj n9
            · exact absurd hlj n10
            · exact absurd hlj n11
            · exact absurd hlj n12
            · exact absurd hlj n13
            · exact absurd hlj n14
            · exact trivial
          · rcases r1.2 with ⟨he, h0⟩ | ⟨g', cap, cur, he, _⟩
            · omega
            · subst he
              rw [← cells_append] at r1
              exact ⟨g', cap, rfl, r1⟩
        · intro L ev w' hC hL hx K hK
          have e65 := hx.held 1 _ rfl (by kernel_rfl)
          have e67 := hx.held 3 _ rfl (by kernel_rfl)
          have e72 := hx.held 8 _ rfl (by kernel_rfl)
          change ev (.tmp 65) = _ at e65
          change ev (.tmp 67) = _ at e67
          change (OwnL w4.heap.size (nb + n3) (bs ++ l3) : Pred) (ev (.tmp 72)) w' at e72
          have HK := Lib.hid hK
          have HC := Lib.hid hC
          have HL := Lib.hid hL
          have HX := Lib.hid hx
          have hc := hx.cst
          have hf := hx.fn
          clear hx hK hC hL
          obtain ⟨g, c6, q72, r72⟩ := e72
          have HO := Lib.hid (HOP.out w' _ g c6 rfl HC.out r72)
          have HW := Lib.hid HC.out.size
          clear r72
          unfold Run
          simp [execOp, Upon, go_sem, *]
          refine HO.out.mono ?_
          rintro e w2 ⟨m, rfl, hb, hm, -⟩
          obtain ⟨cs2, rfl, h2⟩ := hm rfl
          exact ⟨_, rfl, HK.out _ _ (.inl ⟨hb, by decide⟩) ⟨cs2, rfl, h2.wide HW.out (Nat.le_refl _)⟩⟩
        · intro L ev w' hC hL hx K hK
          have e73 := hx.held 9 _ rfl (by kernel_rfl)
          change (DgP2 w4.heap.size x : Pred) (ev (.tmp 73)) w' at e73
          have HK := Lib.hid hK
          have HC := Lib.hid hC
          have HL := Lib.hid hL
          have HX := Lib.hid hx
          have hc := hx.cst
          skip
          clear hx hK hC hL
          obtain ⟨cs2, q73, r73⟩ := e73
          have HZ := Lib.hid r73
          clear r73
          unfold Run
          simp [execOp, Upon, go_sem, *]
          exact HK.out _ _ (.inl ⟨Below.refl _ _, by decide⟩) ⟨cs2, rfl, HZ.out⟩
        · intro L ev w' hC hL hx K hK
          have e63 := hx.held 10 _ rfl (by kernel_rfl)
          change (DgP2 w4.heap.size x : Pred) (ev (.tmp 63)) w' at e63
          have HK := Lib.hid hK
          have HC := Lib.hid hC
          have HL := Lib.hid hL
          have HX := Lib.hid hx
          have hc := hx.cst
          skip
          clear hx hK hC hL
          obtain ⟨cs2, q63, r63⟩ := e63
          have HZ := Lib.hid r63
          clear r63
          unfold Run
          simp [execOp, Upon, go_sem, *]
          exact HK.out _ _ (.inl ⟨Below.refl _ _, by decide⟩) ⟨cs2, rfl, HZ.out⟩
        · intro L ev w' hC hL hx K hK
          have e63 := hx.held 10 _ rfl (by kernel_rfl)
          change (DgP2 w4.heap.size x : Pred) (ev (.tmp 63)) w' at e63
          have HK := Lib.hid hK
          have HC := Lib.hid hC
          have HL := Lib.hid hL
          have HX := Lib.hid hx
          have hc := hx.cst
          skip
          clear hx hK hC hL
          obtain ⟨cs2, q63, r63⟩ := e63
          clear r63
          unfold Run
          simp [execOp, Upon, go_sem, *]
          exact HK.out _ _ (.inl ⟨Below.refl _ _, by decide⟩) rfl
        · intro L ev w' hC hL hx K hK
          have e74 := hx.held 11 _ rfl (by kernel_rfl)
          change (DgI2 w4.heap.size x : Pred) (ev (.tmp 74)) w' at e74
          have HK := Lib.hid hK
          have HC := Lib.hid hC
          have HL := Lib.hid hL
          have HX := Lib.hid hx
          have hc := hx.cst
          skip
          clear hx hK hC hL
          obtain ⟨cs2, q74, r74⟩ := e74
          have HZ := Lib.hid r74
          clear r74
          unfold Run
          simp [execOp, Upon, go_sem, *]
          exact HK.out _ _ (.inl ⟨Below.refl _ _, by decide⟩) ⟨cs2, rfl, HZ.out⟩
        · intro L ev w' hC hL hx K hK
          have e75 := hx.held 12 _ rfl (by kernel_rfl)
          change ev (.tmp 75) = _ at e75
          have HK := Lib.hid hK
          have HC := Lib.hid hC
          have HL := Lib.hid hL
          have HX := Lib.hid hx
          have hc := hx.cst
          skip
          clear hx hK hC hL
          unfold Run
          simp [execOp, Upon, go_sem, *]
          exact HK.out _ _ (.inl ⟨Below.refl _ _, by decide⟩) rfl
      · exact rl_mono ⟨is_mono _, is_mono _, is_mono _, is_mono _, emp_mono, is_mono _, ownL_mono _ _ _, is_mono _, ownL_mono _ _ _, dgP2_mono _ _, dgP2_mono _ _, dgI2_mono _ _, is_mono _, dgI2_mono _ _, is_mono _, trivial⟩
      · exact fun _ _ _ _ h => h
      · exact fun _ w1 w2 hb h => h.trans (hb.mono h.size)
      · exact Below.refl _ _
      · simp
      intro us wr hG hH
      obtain ⟨-, -, -, -, -, -, -, -, -, -, -, -, -, h13, h14, -⟩ := hH
      simp only [fillM]
      change (DgI2 w4.heap.size x : Pred) (us 11) wr at h13
      change us 12 = _ at h14
      rw [h14]
      clear h14
      generalize us 64 = v64
      generalize us 65 = v65
      generalize us 66 = v66
      generalize us 67 = v67
      generalize us 68 = v68
      generalize us 69 = v69
      generalize us 70 = v70
      generalize us 71 = v71
      generalize us 72 = v72
      generalize us 73 = v73
      generalize us 63 = v63
      generalize us 74 = v74
      generalize us 75 = v75
      generalize us 11 = v11 at h13 ⊢
      obtain ⟨cs2, rfl, hc4⟩ := h13
      have HB5 := Lib.hid (HB4.out.trans (hG.mono HB4.out.size))
      have HX5 : Hid (wr.heap[w.heap.size]? = some (.cells #[.int .u16 (x.src : Int), .int .u16 (x.dst : Int), .slice A n c] 43 (0, 0))) := (hG.block _ (row_lt HX4.out)).trans HX4.out
      have HC2 := Lib.hid hc4
      clear hc4 hG
      unfold dgM
      have k0 : World.cell? wr ⟨w.heap.size, 0, none⟩ = some (.int .u16 (x.src : Int)) := cell_of_row _ _ 0 _ _ _ HX5.out
      have k1 : World.cell? wr ⟨w.heap.size, 1, none⟩ = some (.int .u16 (x.dst : Int)) := cell_of_row _ _ 1 _ _ _ HX5.out
      have k2 : World.cell? wr ⟨w.heap.size, 2, none⟩ = some (.slice A n c) := cell_of_row _ _ 2 _ _ _ HX5.out
      go_wp2_with fail
      clear k0 k1 k2
      refine (same_dg cs2 _ x x w4.heap.size wr.heap.size 0 w.heap.size wr HC2.out (HX.out.below HB5.out (Nat.le_refl _)) (Nat.le_refl _) HB5.out.size).mono ?_
      rw [dgEq_self]
      rintro e w7 ⟨rfl, hb7⟩
      have HB7 := Lib.hid (HB5.out.trans (hb7.mono HB5.out.size))
      clear hb7
      go_wp2
      go_ret
      exact ⟨rfl, HB7.out⟩
    · obtain ⟨rfl, rfl⟩ : bs = [] ∧ z = 4 := by injection hce with h1 h2; exact ⟨h1, h2⟩
      have hL0 : nb = 0 := by have h1 := HL5.out; simp at h1; omega
      subst hL0
      go_wp2
      go_ret
      exact ⟨rfl, HB4.out⟩
end Go.Proofs.Ythkpkhhnlenioaa
