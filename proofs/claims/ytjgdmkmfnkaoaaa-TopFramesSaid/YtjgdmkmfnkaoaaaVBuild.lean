/-
  ip4.Build(p): ErrArg where a head can't say where the bytes stand, ErrLong of more than 180 bytes of data, else a packet's bytes in a row of the call's own. Every packet that can be read.
-/
import Derived.Test.YtjgdmkmfnkaoaaaVPv
import Derived.StillTailTactics
import Derived.Laws.CopyOwn
import Derived.Laws.CopyRow
import Derived.Deep.RegionLaw
namespace Go.Proofs.Ytjgdmkmfnkaoaaa.V
open Go.RowKit

/-- what a function leaves that hands back new bytes of the call's own and an error -/
def OwnPost (w : World) (r : List UInt8 × Int) (e : Ending) (w' : World) : Prop :=
  ∃ A c, e = .returned (.tuple #[.slice A r.1.length c, .int .i64 r.2]) ∧ OwnB w' w.heap.size (.slice A r.1.length c) r.1 ∧ Below w.heap.size w w'
theorem own_none {w w' : World} {r : List UInt8 × Int} {z : Int} (h : r = ([], z)) (hb : Below w.heap.size w w') : OwnPost w r (.returned (.tuple #[.slice none 0 0, .int .i64 z])) w' := by
  subst h
  exact ⟨none, 0, rfl, World.ownsRow_nil _ _ _ _, hb⟩
theorem or_more (q : Nat) (h : q < 8192) : bits .or .i64 (q : Int) 8192 = ((q + 8192 : Nat) : Int) := by
  have e : q ||| 8192 = q + 8192 := by
    rw [Nat.or_comm, nat_join 13 8192 q (by decide) (by simpa using h), Nat.add_comm]
  show IntKind.i64.wrap ((BitVec.ofInt 64 (q : Int) ||| BitVec.ofInt 64 ((8192 : Nat) : Int)).toNat : Int) = _
  rw [BitVec.toNat_or, ofInt_u64 q (by omega), ofInt_u64 8192 (by omega), e]
  exact IntWalk.i64_in _ ⟨by omega, by omega⟩

set_option maxRecDepth 100000 in
set_option maxHeartbeats 400000 in
theorem build_arg (cs : Array Value) (p : Pk) (A : Option Addr) (c : Nat) (w : World) (he : cs = (pkC p (.slice A p.data.length c)).toArray) (hok : p.ok) (hoff : -9223372036854775808 ≤ p.off ∧ p.off ≤ 9223372036854775807) (hm : p.data.length ≤ maxLen) (hp : placedB p = false) :
    Calls Try.prog 22 #[.agg cs] w fun e w' => e = .returned (.tuple #[.slice none 0 0, .int .i64 1]) ∧ Below w.heap.size w w' := by
  have HB := Lib.hid ((Below.refl w.heap.size w).alloc (Nat.le_refl _) (.cells cs 60))
  have HG := Lib.hid (heap_alloc_new w (.cells cs 60))
  have HS : Hid (cs.size = 14) := by show _ = _; rw [he]; exact pkC_size hok _
  have HP := Lib.hid hp
  have HPL := Lib.hid (placed_any cs p A c (w.alloc (.cells cs 60)) he hok hoff hm)
  clear he hok hoff hm hp
  go_enter Try.func22, Try.ntmps22
  go_wp2_with (refine wpList_load_row rfl 60 _ rfl w.heap.size rfl 60 cs (0, 0) _ HG.out Try.underlying60 rfl (by rw [HS.out]; kernel_rfl) ?_)
  refine HPL.out.mono ?_
  rintro e w1 ⟨rfl, hb1⟩
  rw [HP.out]
  have HB1 : Hid (Below w.heap.size w w1) := HB.out.trans (hb1.mono HB.out.size)
  clear hb1
  go_wp2
  go_ret2
  exact ⟨rfl, HB1.out⟩
set_option maxRecDepth 100000 in
set_option maxHeartbeats 400000 in
theorem build_long (cs : Array Value) (p : Pk) (A : Option Addr) (c : Nat) (w : World) (he : cs = (pkC p (.slice A p.data.length c)).toArray) (hok : p.ok) (hoff : -9223372036854775808 ≤ p.off ∧ p.off ≤ 9223372036854775807) (hm : p.data.length ≤ maxLen) (hp : placedB p = true) (hl : 180 < p.data.length) :
    Calls Try.prog 22 #[.agg cs] w fun e w' => e = .returned (.tuple #[.slice none 0 0, .int .i64 4]) ∧ Below w.heap.size w w' := by
  have HB := Lib.hid ((Below.refl w.heap.size w).alloc (Nat.le_refl _) (.cells cs 60))
  have hg := heap_alloc_new w (.cells cs 60)
  have HG := Lib.hid hg
  have HS : Hid (cs.size = 14) := by show _ = _; rw [he]; exact pkC_size hok _
  have H13 : Hid (cs[13]? = some (.slice A p.data.length c)) := by show _ = _; subst he; rw [List.getElem?_toArray]; exact pkC_13 hok _
  have HP := Lib.hid hp
  have HPL := Lib.hid (placed_any cs p A c (w.alloc (.cells cs 60)) he hok hoff hm)
  obtain ⟨n, hn⟩ : ∃ n, p.data.length = n := ⟨_, rfl⟩
  rw [hn] at hl hm H13
  unfold maxLen at hm
  clear he hok hoff hp hn hg
  go_enter Try.func22, Try.ntmps22
  go_wp2_with (refine wpList_load_row rfl 60 _ rfl w.heap.size rfl 60 cs (0, 0) _ HG.out Try.underlying60 rfl (by rw [HS.out]; kernel_rfl) ?_)
  refine HPL.out.mono ?_
  rintro e w1 ⟨rfl, hb1⟩
  rw [HP.out]
  have HB1 : Hid (Below w.heap.size w w1) := HB.out.trans (hb1.mono HB.out.size)
  have hc : w1.cell? ⟨w.heap.size, 13, none⟩ = some (.slice A n c) := by rw [cell_of_row _ _ _ _ _ _ ((hb1.block _ (by simp)).trans HG.out)]; exact H13.out
  clear hb1
  go_wp2
  go_ret2
  exact ⟨rfl, HB1.out⟩

theorem copy_src {w : World} {lo hi : Nat} {A : Option Addr} {l : List UInt8} (h : Rd w lo hi A (cells l)) (hl : 0 < l.length := by decide) : ∃ ad, A = some ad ∧ ∀ j v, (cells l)[j]? = some v → w.cell? (ad.add j) = some v := by
  obtain ⟨ad, rfl, _⟩ := h.byte (k := 0) hl
  refine ⟨ad, rfl, fun j v hv => ?_⟩
  obtain ⟨ad', e, _, _, hc⟩ := h j v hv
  cases e
  exact hc
theorem copy_two {P : Program} {w : World} {g L c5 c6 S lo hi : Nat} {A : Option Addr} {cur : Array Value} (hr : Rd w lo hi A (cells (two S))) (hg : w.heap[g]? = some (.cells cur 5 (0, 0))) (hL : 12 ≤ L) (hf : 12 ≤ cur.size) (ty : TypeId)
    (hP : P = Try.prog := by rfl) :
    (Builtin.copy_ #[24, 24] ty #[.slice (some ⟨g, 10, none⟩) (L - 10) (c5 - 10), .slice A (two S).length c6]).run P w = .ok (goInt 2) (w.setRow g (splice cur.toList 10 (cells (two S))).toArray) := by
  subst hP
  obtain ⟨ad, rfl, hsrc⟩ := copy_src hr (by rw [two_length]; decide)
  have hl : (cells (two S)).length = 2 := by rw [cells_length, two_length]
  have h := run_copy_row (P := Try.prog) w 24 24 ty 5 g 10 (L - 10) (c5 - 10) ad (two S).length c6 cur 5 (cells (two S)) Try.underlying24 (by kernel_rfl) hg (by rw [hl, two_length]; exact (Nat.min_eq_left (by omega)).symm) hsrc (by rw [hl]; omega) (cells_one _)
  rw [h, hl, List.append_assoc]
  simp only [splice, hl]
  rfl
theorem splice_take {cur : List Value} {L : Nat} {hd z rest : List UInt8} (x : List Value) (h : cur.take L = cells (hd ++ (z ++ rest))) (hL : (hd ++ (z ++ rest)).length = L) (h10 : hd.length = 10) (hz : z.length = x.length) : (splice cur 10 x).take L = cells hd ++ (x ++ cells rest) := by
  have e : cur = cells hd ++ (cells z ++ cells rest) ++ cur.drop L := by
    have := (List.take_append_drop L cur).symm
    rw [h, cells_append, cells_append] at this
    exact this
  have k1 : (cells hd).length = 10 := by rw [cells_length, h10]
  have k2 : (cells z).length = x.length := by rw [cells_length, hz]
  have k3 : L = 10 + (x.length + (cells rest).length) := by rw [← hL, cells_length]; simp [h10, hz]
  generalize cur.drop L = tl at e
  unfold splice
  have d1 : cur.take 10 = cells hd := by rw [e, List.append_assoc, List.take_left' k1]
  have d2 : cur.drop (10 + x.length) = cells rest ++ tl := by
    rw [e, ← List.drop_drop, List.append_assoc, List.drop_left' k1, List.append_assoc, List.drop_left' k2]
  rw [d1, d2, show cells hd ++ (x ++ (cells rest ++ tl)) = (cells hd ++ (x ++ cells rest)) ++ tl from by simp [List.append_assoc]]
  exact List.take_left' (by simp [k1]; omega)

/-- the bytes of the region's parts -/
theorem flat9 (a b c d e f g h i : List UInt8) : [a, b, c, d, e, f, g, h, i].flatten = a ++ b ++ c ++ d ++ e ++ f ++ g ++ h ++ i := by simp

set_option maxRecDepth 100000 in
set_option maxHeartbeats 4000000 in
theorem build_fits (cs : Array Value) (p : Pk) (A : Option Addr) (c lo hi : Nat) (w : World) (he : cs = (pkC p (.slice A p.data.length c)).toArray) (hok : p.ok) (hoff : -9223372036854775808 ≤ p.off ∧ p.off ≤ 9223372036854775807) (hrd : Rd w lo hi A (cells p.data)) (hA : A = none → c = 0) (hhi : hi ≤ w.heap.size) (hp : placedB p = true) (hl : p.data.length ≤ 180) :
    Calls Try.prog 22 #[.agg cs] w fun e w' => ∃ A' c', e = .returned (.tuple #[.slice A' p.bytes.length c', .int .i64 0]) ∧ OwnB w' w.heap.size (.slice A' p.bytes.length c') p.bytes ∧ Below w.heap.size w w' := by
  have HPL := Lib.hid (placed_any cs p A c (w.alloc (.cells cs 60)) he hok hoff (by unfold maxLen; omega))
  have HP := Lib.hid hp
  have ho := ((placed_iff p).1 hp).1
  have HB := Lib.hid ((Below.refl w.heap.size w).alloc (Nat.le_refl _) (.cells cs 60))
  have HG := Lib.hid (heap_alloc_new w (.cells cs 60))
  have HS : Hid (cs.size = 14) := by show _ = _; rw [he]; exact pkC_size hok _
  have H0 : Hid (cs[0]? = some (.int .u16 p.id)) := by show _ = _; subst he; rfl
  have H1 : Hid (cs[1]? = some (.bool p.more)) := by show _ = _; subst he; rfl
  have H2 : Hid (cs[2]? = some (.int .i64 p.off)) := by show _ = _; subst he; rfl
  have H3 : Hid (cs[3]? = some (.int .u8 (p.ttl.toNat : Int))) := by show _ = _; subst he; rfl
  have H4 : Hid (cs[4]? = some (.int .u8 (p.proto.toNat : Int))) := by show _ = _; subst he; rfl
  have H13 : Hid (cs[13]? = some (.slice A p.data.length c)) := by show _ = _; subst he; rw [List.getElem?_toArray]; exact pkC_13 hok _
  have HSRC : Hid (∀ (k : Nat) u, (cells p.src)[k]? = some u → cs[5 + k]? = some u) := fun k u hu => by subst he; rw [List.getElem?_toArray]; exact pkC_src p _ k u hu
  have HDST : Hid (∀ (k : Nat) u, (cells p.dst)[k]? = some u → cs[9 + k]? = some u) := fun k u hu => by subst he; rw [List.getElem?_toArray]; exact pkC_dst hok _ k u hu
  have HRD := Lib.hid (hrd.alloc hhi (.cells cs 60))
  have HHI := Lib.hid hhi
  have HAN := Lib.hid hA
  have HBY : Hid (p.bytes = front p ++ two (65535 - sumL (bare p)) ++ p.src ++ p.dst ++ p.data) := rfl
  have HBA : Hid (bare p = [69, 0] ++ two (20 + p.data.length) ++ two p.id ++ two (placeN p) ++ [p.ttl, p.proto] ++ two 0 ++ p.src ++ p.dst) := rfl
  have HFR : Hid (front p = [69, 0] ++ two (20 + p.data.length) ++ two p.id ++ two (placeN p) ++ [p.ttl, p.proto]) := rfl
  have hpl : placeN p = p.off.toNat / 8 + (if p.more then 8192 else 0) := rfl
  obtain ⟨q, hq⟩ : ∃ q, p.off.toNat / 8 = q := ⟨_, rfl⟩
  rw [hq] at hpl
  have hq2 : q < 8192 := by omega
  have hdiv : p.off / 8 = (q : Int) := by omega
  obtain ⟨hid, hls, hld⟩ := hok
  have HLS := Lib.hid hls
  have HLD := Lib.hid hld
  obtain ⟨id, more, off, ttl, proto, src, dst, data⟩ := p
  simp only at *
  obtain ⟨n, hn⟩ : ∃ n, data.length = n := ⟨_, rfl⟩
  rw [hn] at hl H13 HBA HFR
  have HN := Lib.hid hn
  obtain ⟨m, hm⟩ : ∃ m, 20 + n = m := ⟨_, rfl⟩
  rw [hm] at HBA HFR
  have HM := Lib.hid hm
  obtain ⟨pl, hplv⟩ : ∃ pl, placeN ⟨id, more, off, ttl, proto, src, dst, data⟩ = pl := ⟨_, rfl⟩
  rw [hplv] at hpl HBA HFR
  have hor := or_more q hq2
  have hm20 : (20 : Int) + (n : Int) = (m : Int) := by omega
  have hm63 : m ≤ 200 := by omega
  obtain ⟨S, hS⟩ : ∃ S, 65535 - sumL (bare ⟨id, more, off, ttl, proto, src, dst, data⟩) = S := ⟨_, rfl⟩
  have hS2 : S < 65536 := by omega
  rw [hS] at HBY
  have HSV := Lib.hid hS
  rw [HBA.out] at HSV
  rw [HFR.out] at HBY
  obtain ⟨bs, hbs⟩ : ∃ bs, (⟨id, more, off, ttl, proto, src, dst, data⟩ : Pk).bytes = bs := ⟨_, rfl⟩
  rw [hbs] at HBY ⊢
  obtain ⟨b0, hb0⟩ : ∃ b0, [69, 0] ++ two m ++ two id ++ two pl ++ [ttl, proto] ++ two 0 ++ src ++ dst ++ data = b0 := ⟨_, rfl⟩
  have HFL : Hid ([[69, 0], two m, two id, two pl, [ttl, proto], two 0, src, dst, data].flatten = b0) := by show _ = _; rw [flat9]; exact hb0
  have hlb : b0.length = m := by rw [← hb0]; simp [two_length, hls, hld, hn]; omega
  have HLB := Lib.hid hlb
  have HBL : Hid (b0.length ≤ 1000000000) := by show _ ≤ _; omega
  have HB00 := Lib.hid hb0
  have hid63 : IntKind.i64.wrap (id : Int) = (id : Int) := IntWalk.i64_in _ ⟨by omega, by omega⟩
  have HI63 := Lib.hid hid63
  have hm63w : IntKind.i64.wrap (20 + (n : Int)) = (m : Int) := by rw [hm20]; exact IntWalk.i64_in _ ⟨by omega, by omega⟩
  have HM63 := Lib.hid hm63w
  have HP2 := Lib.hid hpl
  have HOR := Lib.hid hor
  have HDIV := Lib.hid hdiv
  have HQ := Lib.hid hq2
  obtain ⟨ho1, ho2, ho3⟩ := ho
  have HWZ : Hid ((w.alloc (.cells cs 60)).heap.size = w.heap.size + 1) := by show _ = _; simp
  clear he hrd hhi hA hp hq hpl hdiv hid hls hld hn hm hplv hor hm20 hS hbs hb0 hlb hid63 hm63w hq2 ho3 hoff
  go_enter Try.func22, Try.ntmps22
  go_wp2_with (refine wpList_load_row rfl 60 _ rfl w.heap.size rfl 60 cs (0, 0) _ HG.out Try.underlying60 rfl (by rw [HS.out]; kernel_rfl) ?_)
  refine HPL.out.mono ?_
  rintro e w1 ⟨rfl, hb1⟩
  rw [HP.out]
  have HB1 : Hid (Below w.heap.size w w1) := HB.out.trans (hb1.mono HB.out.size)
  have hg1 : w1.heap[w.heap.size]? = some (.cells cs 60 (0, 0)) := (hb1.block _ (by simp)).trans HG.out
  have HG1 := Lib.hid hg1
  have HW1 : Hid (w.heap.size < w1.heap.size) := row_lt hg1
  have HRD1 := Lib.hid (HRD.out.below hb1 (by rw [HWZ.out]; have := HHI.out; omega))
  have k1 : w1.cell? ⟨w.heap.size, 1, none⟩ = some (.bool more) := by rw [cell_of_row _ _ _ _ _ _ hg1]; exact H1.out
  have k2 : w1.cell? ⟨w.heap.size, 2, none⟩ = some (.int .i64 off) := by rw [cell_of_row _ _ _ _ _ _ hg1]; exact H2.out
  have k13 : w1.cell? ⟨w.heap.size, 13, none⟩ = some (.slice A n c) := by rw [cell_of_row _ _ _ _ _ _ hg1]; exact H13.out
  clear hb1 hg1
  have hdiv := HDIV.out
  have hor := HOR.out
  have hpl2 : Hid ((more = false → q = pl) ∧ (more = true → q + 8192 = pl)) := by
    have h := HP2.out
    constructor
    · rintro rfl; rw [if_neg (by simp)] at h; omega
    · rintro rfl; rw [if_pos rfl] at h; omega
  clear HP2
  cases more
  all_goals
    first
    | (have hq : q = pl := hpl2.out.1 rfl; rw [hq] at hdiv)
    | (have hq : q + 8192 = pl := hpl2.out.2 rfl; rw [hq] at hor)
    clear hpl2
    try clear hq
    go_wp2_with fail
    try rw [hdiv]
    clear k1 k2 k13 hdiv hor
    have KEY : Hid (∀ (k : Nat) u, cs[k]? = some u → ∀ w', Gro (fun _ => False) w1 w' → w'.cell? ⟨w.heap.size, k, none⟩ = some u) := fun k u hu w' hg => by
      rw [cell_of_row _ _ _ _ _ _ ((hg.block _ HW1.out (fun h => h)).trans HG1.out)]
      exact hu
    have RDG : Hid (∀ (o : Nat) xs, (∀ (k : Nat) u, xs[k]? = some u → cs[o + k]? = some u) → ∀ w', Gro (fun _ => False) w1 w' → Rd w' 0 w'.heap.size (some ⟨w.heap.size, o, none⟩) xs) := fun o xs h w' hg => by
      have hr := (hg.block _ HW1.out (fun h => h)).trans HG1.out
      exact (rd_mid hr h).wide (Nat.zero_le _) (row_lt hr)
    have HRB : Hid (∀ w', Gro (fun _ => False) w1 w' → Rd w' 0 w'.heap.size A (cells data)) := fun w' hg => (HRD1.out.below hg.belowF (by have := HHI.out; have := HW1.out; omega)).wide (Nat.zero_le _) (by have := HHI.out; have := HW1.out; have := hg.size; omega)
    have hid63 := HI63.out
    have hm63w := HM63.out
    apply wp_region_rely (fun _ => False) (RL [Fresh w1.heap.size [69, 0], Is _, Is _, Is _, Is _, Fresh w1.heap.size (two m), Is _, Is _, Is _, Fresh w1.heap.size (two id), Is _, Fresh w1.heap.size (two pl), Is _, Is _, Is _, Is _, Fresh w1.heap.size [ttl, proto], Fresh w1.heap.size (two 0), Is _, Is _, Is _, Is _, Is _, Is _, Lists [[69, 0], two m, two id, two pl, [ttl, proto], two 0, src, dst, data], Owned w1.heap.size b0, Owned w1.heap.size b0]) [false, false, false, false, false, true, false, false, false, false, false, false, false, false, false, false, false, false, false, false, true, true, true, true, true, true, true, true, true, true, true, true, true, true, true, true, true, true, true, true, true, true, true, true, true, true, false, false, false, false, false, false, false, false, false, false]
    · kernel_rfl
    · kernel_rfl
    · kernel_rfl
    · refine ⟨?_, ?_, ?_, ?_, ?_, ?_, ?_, ?_, ?_, ?_, ?_, ?_, ?_, ?_, ?_, ?_, ?_, ?_, ?_, ?_, ?_, ?_, ?_, ?_, ?_, ?_, ?_, trivial⟩
      · intro ev w' hC hc hf hb hr K hK
        have HK := Lib.hid hK
        have HC := Lib.hid hC
        clear hb hr hK hC hf
        unfold Run
        simp [execOp, Upon, go_sem, *]
        exact HK.out _ _ (.inl ((Below.refl _ _).alloc (Nat.le_refl _) _)) ⟨some ⟨w'.heap.size, 0, none⟩, 2, rfl, by rw [World.size_alloc]; exact (rd_new w' (cells [69, 0]) 5 (0, 0)).wide HC.out.size (Nat.le_refl _), (fun h => by cases h), Nat.le_refl _, (by unfold maxLen; simp)⟩
      · intro ev w' hC hc hf hb hr K hK
        have e1 : ev (.tmp 1) = _ := hb 1 (by kernel_rfl)
        have HK := Lib.hid hK
        have HC := Lib.hid hC
        clear hb hr hK hC hf
        unfold Run
        simp [execOp, Upon, go_sem, *]
        exact HK.out _ _ (.inl (Below.refl _ _)) rfl
      · intro ev w' hC hc hf hb hr K hK
        have e21 := hr 1 _ rfl (by kernel_rfl)
        change ev (.tmp 21) = _ at e21
        have HK := Lib.hid hK
        have HC := Lib.hid hC
        clear hb hr hK hC hf
        have c13 := KEY.out 13 _ H13.out w' HC.out
        unfold Run
        simp [execOp, Upon, go_sem, *]
        exact HK.out _ _ (.inl (Below.refl _ _)) rfl
      · intro ev w' hC hc hf hb hr K hK
        have e22 := hr 2 _ rfl (by kernel_rfl)
        change ev (.tmp 22) = _ at e22
        have HK := Lib.hid hK
        have HC := Lib.hid hC
        clear hb hr hK hC hf
        unfold Run
        rw [run_lenE _ 24 5 Try.underlying24 rfl e22]
        exact HK.out _ _ (.inl (Below.refl _ _)) rfl
      · intro ev w' hC hc hf hb hr K hK
        have e23 := hr 3 _ rfl (by kernel_rfl)
        change ev (.tmp 23) = _ at e23
        have HK := Lib.hid hK
        have HC := Lib.hid hC
        clear hb hr hK hC hf
        unfold Run
        simp [execOp, Upon, go_sem, *]
        exact HK.out _ _ (.inl (Below.refl _ _)) rfl
      · intro ev w' hC hc hf hb hr K hK
        have e24 := hr 4 _ rfl (by kernel_rfl)
        change ev (.tmp 24) = _ at e24
        have HK := Lib.hid hK
        have HC := Lib.hid hC
        clear hb hr hK hC
        unfold Run
        simp [execOp, Upon, go_sem, *]
        refine (pair_any m _).mono ?_
        rintro e w2 ⟨v, rfl, hf, hb⟩
        exact ⟨v, rfl, HK.out _ _ (.inl hb) (hf.wide HC.out.size)⟩
      · intro ev w' hC hc hf hb hr K hK
        have e1 : ev (.tmp 1) = _ := hb 1 (by kernel_rfl)
        have HK := Lib.hid hK
        have HC := Lib.hid hC
        clear hb hr hK hC hf
        unfold Run
        simp [execOp, Upon, go_sem, *]
        exact HK.out _ _ (.inl (Below.refl _ _)) rfl
      · intro ev w' hC hc hf hb hr K hK
        have e26 := hr 6 _ rfl (by kernel_rfl)
        change ev (.tmp 26) = _ at e26
        have HK := Lib.hid hK
        have HC := Lib.hid hC
        clear hb hr hK hC hf
        have c0 := KEY.out 0 _ H0.out w' HC.out
        unfold Run
        simp [execOp, Upon, go_sem, *]
        exact HK.out _ _ (.inl (Below.refl _ _)) rfl
      · intro ev w' hC hc hf hb hr K hK
        have e27 := hr 7 _ rfl (by kernel_rfl)
        change ev (.tmp 27) = _ at e27
        have HK := Lib.hid hK
        have HC := Lib.hid hC
        clear hb hr hK hC hf
        unfold Run
        simp [execOp, Upon, go_sem, *]
        exact HK.out _ _ (.inl (Below.refl _ _)) rfl
      · intro ev w' hC hc hf hb hr K hK
        have e28 := hr 8 _ rfl (by kernel_rfl)
        change ev (.tmp 28) = _ at e28
        have HK := Lib.hid hK
        have HC := Lib.hid hC
        clear hb hr hK hC
        unfold Run
        simp [execOp, Upon, go_sem, *]
        refine (pair_any id _).mono ?_
        rintro e w2 ⟨v, rfl, hf, hb⟩
        exact ⟨v, rfl, HK.out _ _ (.inl hb) (hf.wide HC.out.size)⟩
      · intro ev w' hC hc hf hb hr K hK
        have e4 : ev (.tmp 4) = _ := hb 4 (by kernel_rfl)
        have HK := Lib.hid hK
        have HC := Lib.hid hC
        clear hb hr hK hC hf
        unfold Run
        simp [execOp, Upon, go_sem, *]
        exact HK.out _ _ (.inl (Below.refl _ _)) rfl
      · intro ev w' hC hc hf hb hr K hK
        have e30 := hr 10 _ rfl (by kernel_rfl)
        change ev (.tmp 30) = _ at e30
        have HK := Lib.hid hK
        have HC := Lib.hid hC
        clear hb hr hK hC
        unfold Run
        simp [execOp, Upon, go_sem, *]
        refine (pair_any pl _).mono ?_
        rintro e w2 ⟨v, rfl, hf, hb⟩
        exact ⟨v, rfl, HK.out _ _ (.inl hb) (hf.wide HC.out.size)⟩
      · intro ev w' hC hc hf hb hr K hK
        have e1 : ev (.tmp 1) = _ := hb 1 (by kernel_rfl)
        have HK := Lib.hid hK
        have HC := Lib.hid hC
        clear hb hr hK hC hf
        unfold Run
        simp [execOp, Upon, go_sem, *]
        exact HK.out _ _ (.inl (Below.refl _ _)) rfl
      · intro ev w' hC hc hf hb hr K hK
        have e32 := hr 12 _ rfl (by kernel_rfl)
        change ev (.tmp 32) = _ at e32
        have HK := Lib.hid hK
        have HC := Lib.hid hC
        clear hb hr hK hC hf
        have c3 := KEY.out 3 _ H3.out w' HC.out
        unfold Run
        simp [execOp, Upon, go_sem, *]
        exact HK.out _ _ (.inl (Below.refl _ _)) rfl
      · intro ev w' hC hc hf hb hr K hK
        have e1 : ev (.tmp 1) = _ := hb 1 (by kernel_rfl)
        have HK := Lib.hid hK
        have HC := Lib.hid hC
        clear hb hr hK hC hf
        unfold Run
        simp [execOp, Upon, go_sem, *]
        exact HK.out _ _ (.inl (Below.refl _ _)) rfl
      · intro ev w' hC hc hf hb hr K hK
        have e34 := hr 14 _ rfl (by kernel_rfl)
        change ev (.tmp 34) = _ at e34
        have HK := Lib.hid hK
        have HC := Lib.hid hC
        clear hb hr hK hC hf
        have c4 := KEY.out 4 _ H4.out w' HC.out
        unfold Run
        simp [execOp, Upon, go_sem, *]
        exact HK.out _ _ (.inl (Below.refl _ _)) rfl
      · intro ev w' hC hc hf hb hr K hK
        have e33 := hr 13 _ rfl (by kernel_rfl)
        have e35 := hr 15 _ rfl (by kernel_rfl)
        change ev (.tmp 33) = _ at e33
        change ev (.tmp 35) = _ at e35
        have HK := Lib.hid hK
        have HC := Lib.hid hC
        clear hb hr hK hC hf
        unfold Run
        simp [execOp, Upon, go_sem, *]
        exact HK.out _ _ (.inl ((Below.refl _ _).alloc (Nat.le_refl _) _)) ⟨some ⟨w'.heap.size, 0, none⟩, 2, rfl, by rw [World.size_alloc]; exact (rd_new w' (cells [ttl, proto]) 5 (0, 0)).wide HC.out.size (Nat.le_refl _), (fun h => by cases h), Nat.le_refl _, (by unfold maxLen; simp)⟩
      · intro ev w' hC hc hf hb hr K hK
        have HK := Lib.hid hK
        have HC := Lib.hid hC
        clear hb hr hK hC
        unfold Run
        simp [execOp, Upon, go_sem, *]
        refine (pair_any 0 _).mono ?_
        rintro e w2 ⟨v, rfl, hf, hb⟩
        exact ⟨v, rfl, HK.out _ _ (.inl hb) (hf.wide HC.out.size)⟩
      · intro ev w' hC hc hf hb hr K hK
        have e1 : ev (.tmp 1) = _ := hb 1 (by kernel_rfl)
        have HK := Lib.hid hK
        have HC := Lib.hid hC
        clear hb hr hK hC hf
        unfold Run
        simp [execOp, Upon, go_sem, *]
        exact HK.out _ _ (.inl (Below.refl _ _)) rfl
      · intro ev w' hC hc hf hb hr K hK
        have e38 := hr 18 _ rfl (by kernel_rfl)
        change ev (.tmp 38) = _ at e38
        have HK := Lib.hid hK
        have HC := Lib.hid hC
        clear hb hr hK hC hf
        unfold Run
        simp [execOp, Upon, go_sem, *]
        exact HK.out _ _ (.inl (Below.refl _ _)) rfl
      · intro ev w' hC hc hf hb hr K hK
        have e1 : ev (.tmp 1) = _ := hb 1 (by kernel_rfl)
        have HK := Lib.hid hK
        have HC := Lib.hid hC
        clear hb hr hK hC hf
        unfold Run
        simp [execOp, Upon, go_sem, *]
        exact HK.out _ _ (.inl (Below.refl _ _)) rfl
      · intro ev w' hC hc hf hb hr K hK
        have e40 := hr 20 _ rfl (by kernel_rfl)
        change ev (.tmp 40) = _ at e40
        have HK := Lib.hid hK
        have HC := Lib.hid hC
        clear hb hr hK hC hf
        unfold Run
        simp [execOp, Upon, go_sem, *]
        exact HK.out _ _ (.inl (Below.refl _ _)) rfl
      · intro ev w' hC hc hf hb hr K hK
        have e1 : ev (.tmp 1) = _ := hb 1 (by kernel_rfl)
        have HK := Lib.hid hK
        have HC := Lib.hid hC
        clear hb hr hK hC hf
        unfold Run
        simp [execOp, Upon, go_sem, *]
        exact HK.out _ _ (.inl (Below.refl _ _)) rfl
      · intro ev w' hC hc hf hb hr K hK
        have e42 := hr 22 _ rfl (by kernel_rfl)
        change ev (.tmp 42) = _ at e42
        have HK := Lib.hid hK
        have HC := Lib.hid hC
        clear hb hr hK hC hf
        have c13 := KEY.out 13 _ H13.out w' HC.out
        unfold Run
        simp [execOp, Upon, go_sem, *]
        exact HK.out _ _ (.inl (Below.refl _ _)) rfl
      · intro ev w' hC hc hf hb hr K hK
        have e20 := hr 0 _ rfl (by kernel_rfl)
        have e25 := hr 5 _ rfl (by kernel_rfl)
        have e29 := hr 9 _ rfl (by kernel_rfl)
        have e31 := hr 11 _ rfl (by kernel_rfl)
        have e36 := hr 16 _ rfl (by kernel_rfl)
        have e37 := hr 17 _ rfl (by kernel_rfl)
        have e39 := hr 19 _ rfl (by kernel_rfl)
        have e41 := hr 21 _ rfl (by kernel_rfl)
        have e43 := hr 23 _ rfl (by kernel_rfl)
        change (Fresh w1.heap.size [69, 0] : Pred) (ev (.tmp 20)) _ at e20
        change (Fresh w1.heap.size (two m) : Pred) (ev (.tmp 25)) _ at e25
        change (Fresh w1.heap.size (two id) : Pred) (ev (.tmp 29)) _ at e29
        change (Fresh w1.heap.size (two pl) : Pred) (ev (.tmp 31)) _ at e31
        change (Fresh w1.heap.size [ttl, proto] : Pred) (ev (.tmp 36)) _ at e36
        change (Fresh w1.heap.size (two 0) : Pred) (ev (.tmp 37)) _ at e37
        change ev (.tmp 39) = _ at e39
        change ev (.tmp 41) = _ at e41
        change ev (.tmp 43) = _ at e43
        have HK := Lib.hid hK
        have HC := Lib.hid hC
        clear hb hr hK hC hf
        have HS := Lib.hid (RDG.out 5 _ HSRC.out w' HC.out)
        have HD := Lib.hid (RDG.out 9 _ HDST.out w' HC.out)
        have HDA := Lib.hid (HRB.out w' HC.out)
        obtain ⟨A20, c20, q20, r20, z20, _⟩ := e20
        obtain ⟨A25, c25, q25, r25, z25, _⟩ := e25
        obtain ⟨A29, c29, q29, r29, z29, _⟩ := e29
        obtain ⟨A31, c31, q31, r31, z31, _⟩ := e31
        obtain ⟨A36, c36, q36, r36, z36, _⟩ := e36
        obtain ⟨A37, c37, q37, r37, z37, _⟩ := e37
        have hb0 : Bits w' 0 w'.heap.size [.slice A n c] [data] := by
          have := Bits.cons (lo := 0) (hi := w'.heap.size) HDA.out HAN.out (Bits.nil (w := w'))
          rwa [HN.out] at this
        have hb1 := Bits.cons (c := 4) HD.out (fun h => by cases h) hb0
        have hb2 := Bits.cons (c := 4) HS.out (fun h => by cases h) hb1
        rw [HLD.out, HLS.out] at hb2
        have hb3 := fresh_bits r20 z20 (fresh_bits r25 z25 (fresh_bits r29 z29 (fresh_bits r31 z31 (fresh_bits r36 z36 (fresh_bits r37 z37 hb2)))))
        have HBI := Lib.hid hb3
        clear r20 z20 r25 z25 r29 z29 r31 z31 r36 z36 r37 z37 hb0 hb1 hb2 hb3
        simp only [two_length, List.length_cons, List.length_nil] at q20 q25 q29 q31 q36 q37
        unfold Run
        simp [execOp, Upon, go_sem, *]
        exact HK.out _ _ (.inl ((Below.refl _ _).alloc (Nat.le_refl _) _)) (lists_new HBI.out _)
      · intro ev w' hC hc hf hb hr K hK
        have e44 := hr 24 _ rfl (by kernel_rfl)
        change (Lists [[69, 0], two m, two id, two pl, [ttl, proto], two 0, src, dst, data] : Pred) (ev (.tmp 44)) _ at e44
        have HK := Lib.hid hK
        have HC := Lib.hid hC
        clear hb hr hK hC
        obtain ⟨g44, vs, q44, r44, hb44⟩ := e44
        simp only [List.length_cons, List.length_nil] at q44
        have HCC := Lib.hid (concat_any ⟨g44, 0, none⟩ 9 _ _ _ _ vs _ w' r44 hb44 (Nat.le_refl _) (Nat.le_refl _) (by rw [HFL.out]; exact HBL.out) (by simp))
        clear r44 hb44
        unfold Run
        simp [execOp, Upon, go_sem, *]
        refine HCC.out.mono ?_
        rintro e w2 ⟨A2, c2, rfl, ho, hb⟩
        rw [HFL.out] at ho ⊢
        exact ⟨_, rfl, HK.out _ _ (.inl hb) ⟨A2, c2, rfl, own_base ho HC.out.size⟩⟩
      · intro ev w' hC hc hf hb hr K hK
        have e45 := hr 25 _ rfl (by kernel_rfl)
        change (Owned w1.heap.size b0 : Pred) (ev (.tmp 45)) _ at e45
        have HK := Lib.hid hK
        have HC := Lib.hid hC
        clear hb hr hK hC hf
        have E45 := Lib.hid e45
        clear e45
        unfold Run
        simp [execOp, Upon, go_sem, *]
        exact HK.out _ _ (.inl (Below.refl _ _)) E45.out
    · exact rl_mono ⟨fresh_mono _ _, is_mono _, is_mono _, is_mono _, is_mono _, fresh_mono _ _, is_mono _, is_mono _, is_mono _, fresh_mono _ _, is_mono _, fresh_mono _ _, is_mono _, is_mono _, is_mono _, is_mono _, fresh_mono _ _, fresh_mono _ _, is_mono _, is_mono _, is_mono _, is_mono _, is_mono _, is_mono _, lists_mono _, owned_mono _ _, owned_mono _ _, trivial⟩
    intro us wr hG hH
    obtain ⟨-, -, -, -, -, -, -, -, -, -, -, -, -, -, -, -, -, -, -, -, -, -, -, -, -, -, h26, -⟩ := hH
    simp only [fillM]
    change (Owned w1.heap.size b0 : Pred) (us 5) wr at h26
    generalize us 20 = v20
    generalize us 21 = v21
    generalize us 22 = v22
    generalize us 23 = v23
    generalize us 24 = v24
    generalize us 25 = v25
    generalize us 26 = v26
    generalize us 27 = v27
    generalize us 28 = v28
    generalize us 29 = v29
    generalize us 30 = v30
    generalize us 31 = v31
    generalize us 32 = v32
    generalize us 33 = v33
    generalize us 34 = v34
    generalize us 35 = v35
    generalize us 36 = v36
    generalize us 37 = v37
    generalize us 38 = v38
    generalize us 39 = v39
    generalize us 40 = v40
    generalize us 41 = v41
    generalize us 42 = v42
    generalize us 43 = v43
    generalize us 44 = v44
    generalize us 45 = v45
    generalize us 5 = v5 at h26 ⊢
    obtain ⟨A5, c5, rfl, ho5⟩ := h26
    have hb0 := HB00.out
    obtain ⟨hd, hhd⟩ : ∃ hd, [69, 0] ++ two m ++ two id ++ two pl ++ [ttl, proto] = hd := ⟨_, rfl⟩
    rw [hhd] at hb0
    have HHD : Hid (hd.length = 10) := by show _ = _; rw [← hhd]; rfl
    have HSV2 := HSV.out
    rw [hhd] at HSV2
    have HSW := Lib.hid HSV2
    have HBY2 := HBY.out
    rw [hhd] at HBY2
    have HBZ := Lib.hid HBY2
    have H20 : Hid (hd ++ two 0 ++ src ++ dst = b0.take 20) := by
      show _ = _
      rw [← hb0, List.take_append_of_le_length (by simp [HHD.out, two_length, HLS.out, HLD.out]), List.take_of_length_le (by simp [HHD.out, two_length, HLS.out, HLD.out])]
    have HB10 : Hid (b0 = hd ++ (two 0 ++ (src ++ dst ++ data))) := by show _ = _; rw [← hb0]; simp [List.append_assoc]
    have HLB5 := HLB.out
    obtain ⟨g5, rfl, hg5, hlt5, -⟩ := own_at ho5 (j := 0) (cells_get b0 0 (by have := HM.out; omega))
    have hcap := own_cap ho5
    obtain ⟨L, hL⟩ : ∃ L, b0.length = L := ⟨_, rfl⟩
    rw [hL] at ho5 hcap ⊢
    have HL := Lib.hid hL
    have hLm : L = m := by rw [← hL]; exact HLB.out
    have hL20 : 20 ≤ L := by have := HM.out; omega
    have hL200 : L ≤ 200 := by omega
    obtain ⟨hcap1, hcap2⟩ := hcap
    unfold maxLen at hcap2
    have HO5 := Lib.hid ho5
    have HG5 := Lib.hid hg5
    have HBR : Hid (Below w.heap.size w wr) := HB1.out.trans (hG.belowF.mono HB1.out.size)
    have hI1 : (10 : Int) ≤ (L : Int) := by omega
    have hI2 : (20 : Int) ≤ (c5 : Int) := by omega
    have hc10 : c5 ≠ 10 := by omega
    have hcur := HO5.out.2
    rcases hcur with ⟨he, _⟩ | ⟨g, cap, cur, he, _, hgr, _, _, hcs, htk⟩
    · cases he
    simp only [Value.slice.injEq, Option.some.injEq, Addr.mk.injEq, and_true] at he
    obtain ⟨rfl, -, rfl⟩ := he
    rw [Nat.mul_one] at hcs htk
    rw [HL.out] at htk
    have HGR := Lib.hid hgr
    have HCS := Lib.hid hcs
    have HTK := Lib.hid htk
    have hSe : 65535 - sumL (b0.take 20) = S := by rw [← H20.out]; exact HSW.out
    have hrd20 : Rd wr 0 wr.heap.size (some ⟨g5, 0, none⟩) (cells (b0.take 20)) := by
      rw [← cells_take]
      have hq : wr.ownsRow w1.heap.size 5 1 (.slice (some ⟨g5, 0, none⟩) L c5) L (cells b0) := by
        have h := HO5.out
        unfold OwnB at h
        rw [HL.out] at h
        exact h
      exact (((Rd.own hq).wide (Nat.zero_le _) (Nat.le_refl _))).take 20
    have hs := sum_any ⟨wr.heap.size, 0, none⟩ [.slice (some ⟨g5, 0, none⟩) (b0.take 20).length c5] [b0.take 20] 1 wr.heap.size (wr.heap.size + 1) 0 wr.heap.size 1 (b0.take 20) (wr.alloc (.cells #[.slice (some ⟨g5, 0, none⟩) (b0.take 20).length c5] 24)).drew
      (rd_new wr [.slice (some ⟨g5, 0, none⟩) (b0.take 20).length c5] 24 (0, 0)).drew (pts_cons (hrd20.alloc (Nat.le_refl _) _).drew rfl pts_nil) rfl (by decide) (by intro p hp; simp at hp; subst hp; unfold maxLen; simp; omega) (by simp)
    rw [hSe, show (b0.take 20).length = 20 from by rw [List.length_take]; omega] at hs
    have HSUM := Lib.hid hs
    have hS63 : IntKind.i64.wrap (S : Int) = (S : Int) := IntWalk.i64_in _ ⟨by omega, by omega⟩
    clear hhd HSV2 HBY2 hb0 HLB5 hL ho5 hg5 hG hLm HB1 hgr hcs htk hSe hrd20 hs
    go_wp2_with fail
    go_region_law (first
      | (go_simp; go_wp2_with (first | (go_at_call 31; refine HSUM.out.mono ?_; rintro e w5 ⟨rfl, rfl⟩) | (go_at_call 48; refine (pair_any S _).mono ?_; rintro e w6 ⟨v6, rfl, ⟨A6, c6, rfl, hr6, hz6, hc6⟩, hb6⟩; have hg6 := (hb6.block g5 (by simp; omega)).trans (old_alloc HGR.out _); have hcp := copy_two (P := Try.prog) (L := L) (c5 := c5) (c6 := c6) hr6 hg6 (by omega) (by rw [HCS.out]; omega) 3))))
    have HWG : Hid (w.heap.size ≤ g5) := by have h1 := HG5.out; have h2 := HW1.out; show _ ≤ _; omega
    have HB7 : Hid (Below w.heap.size w (w6.setRow g5 (splice cur.toList 10 (cells (two S))).toArray)) := below_setRow ((HBR.out.alloc HBR.out.size _).drew.trans (hb6.mono (by simp; have := HBR.out.size; omega))) HWG.out _
    have HG7 := Lib.hid (setRow_heap w6 g5 cur (splice cur.toList 10 (cells (two S))).toArray _ _ hg6)
    generalize w6.setRow g5 (splice cur.toList 10 (cells (two S))).toArray = w7 at HB7 HG7 ⊢
    clear hb6 hg6 hcp hr6 hz6 hc6 hS63 hI1 hI2 hc10
    go_wp2
    go_ret2
    have hbl : bs.length = L := by
      rw [HBZ.out]
      have h1 := HL.out
      rw [HB10.out] at h1
      rw [← h1]
      simp [two_length]
    have htk : (splice cur.toList 10 (cells (two S))).take L = cells bs := by
      have h1 := HTK.out
      rw [HB10.out] at h1
      rw [splice_take (cells (two S)) h1 (by rw [← HB10.out]; exact HL.out) HHD.out (by rw [cells_length]; rfl), HBZ.out]
      simp [cells_append, List.append_assoc]
    refine ⟨some ⟨g5, 0, none⟩, c5, by rw [hbl]; rfl, ?_, HB7.out⟩
    show World.ownsRow _ _ _ _ _ _ _
    rw [hbl]
    refine ⟨by rw [cells_length, hbl, Nat.mul_one], .inr ⟨g5, c5, _, rfl, HWG.out, HG7.out, hcap1, (by unfold maxLen; omega), ?_, by rw [Nat.mul_one]; exact htk⟩⟩
    have hcl : (splice cur.toList 10 (cells (two S))).length = cur.size := by
      rw [length_splice _ _ _ (by rw [cells_length, two_length, Array.length_toList, HCS.out]; omega), Array.length_toList]
    rw [List.size_toArray, hcl, HCS.out, Nat.mul_one]

/-- ip4.Build, all of it -/
theorem build_any (cs : Array Value) (p : Pk) (w : World) (lo hi : Nat) (h : PkV w lo hi cs p) (hhi : hi ≤ w.heap.size) :
    Calls Try.prog 22 #[.agg cs] w (OwnPost w (buildP p)) := by
  obtain ⟨A, c, he, hok, hoff, hrd, hlc, hcm, hA⟩ := h
  by_cases hp : placedB p = true
  · by_cases hl : 180 < p.data.length
    · have e1 : buildP p = ([], 4) := by unfold buildP; rw [if_pos hp, if_pos hl]
      refine (build_long cs p A c w he hok hoff (by omega) hp hl).mono ?_
      rintro e w' ⟨rfl, hb⟩
      exact own_none e1 hb
    · have e1 : buildP p = (p.bytes, 0) := by unfold buildP; rw [if_pos hp, if_neg hl]
      rw [e1]
      exact build_fits cs p A c lo hi w he hok hoff hrd hA hhi hp (by omega)
  · have e1 : buildP p = ([], 1) := by unfold buildP; rw [if_neg hp]
    refine (build_arg cs p A c w he hok hoff (by omega) (by simpa using hp)).mono ?_
    rintro e w' ⟨rfl, hb⟩
    exact own_none e1 hb
end Go.Proofs.Ytjgdmkmfnkaoaaa.V
