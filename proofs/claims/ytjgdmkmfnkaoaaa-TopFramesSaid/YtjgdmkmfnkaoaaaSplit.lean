/-
  octets.Split(b, sizes): ErrArg or ErrCut at the first size that is wrong, else new parts of b. Every b and every list of sizes that can be read, of at most a milliard each.
-/
import Derived.Test.YtjgdmkmfnkaoaaaMem
import Derived.Test.YtjgdmkmfnkaoaaaPut
import Derived.Test.YtjgdmkmfnkaoaaaShelf
namespace Go.Proofs.Ytjgdmkmfnkaoaaa
open Go.RowKit

/-- the parts behind those of acc -/
def splitGo (acc : List (List UInt8)) (l : List UInt8) : List Int → List (List UInt8) × Int
  | [] => (acc ++ [l], 0)
  | s :: r => if s < 0 then ([], 1) else if (l.length : Int) < s then ([], 6) else splitGo (acc ++ [l.take s.toNat]) (l.drop s.toNat) r
def splitS (l : List UInt8) (sizes : List Int) : List (List UInt8) × Int := splitGo [] l sizes
def ints (zs : List Int) : List Value := zs.map (Value.int .i64)

/-- the values vs are slices of the bytes of ps, each in a row of the call's own -/
def Parts (w : World) (B : Nat) (vs : List Value) (ps : List (List UInt8)) : Prop :=
  vs.length = ps.length ∧ ∀ (i : Nat) (p : List UInt8), ps[i]? = some p → ∃ A c, vs[i]? = some (.slice A p.length c) ∧ w.ownsRow B 5 1 (.slice A p.length c) p.length (cells p)

/-- one part more -/
theorem parts_step {wr w1 w2 : World} {B : Nat} {v : Value} {n : Nat} {vs : List Value} {acc : List (List UInt8)} {p : List UInt8} {A : Option Addr} {c : Nat} {o : Obj} (hp : Parts wr B vs acc) (hown : w1.ownsRow B 24 1 v n vs)
    (hb1 : Below wr.heap.size wr w1) (hB : B ≤ wr.heap.size) (hown1 : w1.ownsRow wr.heap.size 5 1 (.slice A p.length c) p.length (cells p)) (hg : (w1.alloc o).grownBy w2 v.ownBlock) :
    Parts w2 B (vs ++ [.slice A p.length c]) (acc ++ [p]) := by
  refine ⟨by simp [hp.1], fun i q hq => ?_⟩
  rcases Nat.lt_or_ge i acc.length with hi | hi
  · rw [List.getElem?_append_left hi] at hq
    obtain ⟨A', c', h1, h2⟩ := hp.2 i q hq
    refine ⟨A', c', by rw [List.getElem?_append_left (by rw [hp.1]; exact hi)]; exact h1, ?_⟩
    have h3 := own_below h2 hb1 (Nat.le_refl _)
    exact (h3.alloc o).kept hg (own_ne h3 hown (by decide))
  · rw [List.getElem?_append_right hi] at hq
    have hz : i - acc.length = 0 := by
      have := (List.getElem?_eq_some_iff.1 hq).1
      simp at this
      omega
    rw [hz] at hq
    have hqp : q = p := by simpa using hq.symm
    subst hqp
    refine ⟨A, c, by rw [List.getElem?_append_right (by rw [hp.1]; exact hi), hp.1, hz]; rfl, ?_⟩
    exact own_base ((hown1.alloc o).kept hg (own_ne hown1 hown (by decide))) hB

theorem splitGo_step (acc : List (List UInt8)) (l : List UInt8) (zs : List Int) (k n : Nat) (hk : k < zs.length) (hz : zs[k] = (n : Int)) (hl : n ≤ l.length) :
    splitGo acc l (zs.drop k) = splitGo (acc ++ [l.take n]) (l.drop n) (zs.drop (k + 1)) := by
  rw [List.drop_eq_getElem_cons hk, hz]
  simp only [splitGo]
  rw [if_neg (by omega), if_neg (by omega), Int.toNat_natCast]
theorem splitGo_neg (acc : List (List UInt8)) (l : List UInt8) (zs : List Int) (k : Nat) (z : Int) (hk : k < zs.length) (hz : zs[k] = z) (hl : z < 0) :
    splitGo acc l (zs.drop k) = ([], 1) := by
  rw [List.drop_eq_getElem_cons hk, hz]
  simp only [splitGo]
  rw [if_pos hl]
theorem splitGo_cut (acc : List (List UInt8)) (l : List UInt8) (zs : List Int) (k n : Nat) (hk : k < zs.length) (hz : zs[k] = (n : Int)) (hl : (l.length : Int) < n) :
    splitGo acc l (zs.drop k) = ([], 6) := by
  rw [List.drop_eq_getElem_cons hk, hz]
  simp only [splitGo]
  rw [if_neg (by omega), if_pos hl]

/-- what Split leaves -/
def SplitPost (w : World) (r : List (List UInt8) × Int) (e : Ending) (w' : World) : Prop :=
  ∃ A c vs, e = .returned (.tuple #[.slice A r.1.length c, .int .i64 r.2]) ∧ w'.ownsRow w.heap.size 24 1 (.slice A r.1.length c) r.1.length vs ∧ Parts w' w.heap.size vs r.1 ∧ Below w.heap.size w w'
theorem split_none {w wr : World} {r : List (List UInt8) × Int} {z : Int} (h : r = ([], z)) (hb : Below w.heap.size w wr) : SplitPost w r (.returned (.tuple #[.slice none 0 0, .int .i64 z])) wr := by
  subst h
  exact ⟨none, 0, [], rfl, World.ownsRow_nil _ _ _ _, ⟨rfl, by simp⟩, hb⟩

theorem clone_any (A : Option Addr) (l : List UInt8) (c lo hi : Nat) (w : World) (h : Rd w lo hi A (cells l)) (hl : l.length ≤ 1000000000) :
    Calls Try.prog 40 #[.slice A l.length c] w fun e w' => ∃ A' c', e = .returned (.slice A' l.length c') ∧ w'.ownsRow w.heap.size 5 1 (.slice A' l.length c') l.length (cells l) ∧ Below w.heap.size w w' := by
  rcases A with _ | ad
  · have e : l = [] := by
      rcases l with _ | ⟨x, r⟩
      · rfl
      · obtain ⟨ad, e, _⟩ := h.byte (k := 0) (by simp)
        cases e
    subst e
    refine (Try.bytes_Clone_nil 0 c w).mono ?_
    rintro e w' ⟨rfl, rfl⟩
    exact ⟨none, 0, rfl, World.ownsRow_nil _ _ _ _, Below.refl _ _⟩
  · refine (Try.bytes_Clone_at ad l.length c (l.map fun x => (x.toNat : Int)) w (by simp) (by omega) ?_).mono ?_
    · intro i hi
      obtain ⟨ad', e, hc⟩ := h.byte hi
      cases e
      rw [hc]
      simp [hi]
    · rintro e w' ⟨v, rfl, hown, _, hb⟩
      have hc : (l.map fun x => (x.toNat : Int)).map (Value.int .u8) = cells l := by simp [cells]
      rw [hc] at hown
      have hv : ∃ A c, v = .slice A l.length c := by
        rcases hown.2 with ⟨rfl, hz⟩ | ⟨g, cap, cur, rfl, _⟩
        · exact ⟨none, 0, by rw [hz]⟩
        · exact ⟨_, _, rfl⟩
      obtain ⟨A', c', rfl⟩ := hv
      exact ⟨A', c', rfl, hown, hb⟩

theorem clone_len (A : Option Addr) (l : List UInt8) (n c lo hi : Nat) (w : World) (h : Rd w lo hi A (cells l)) (hl : l.length ≤ 1000000000) (hn : l.length = n) :
    Calls Try.prog 40 #[.slice A n c] w fun e w' => ∃ A' c', e = .returned (.slice A' n c') ∧ w'.ownsRow w.heap.size 5 1 (.slice A' n c') n (cells l) ∧ Below w.heap.size w w' := by
  subst hn
  exact clone_any A l c lo hi w h hl
theorem info23 : (Try.prog.info? 24).map (fun i => (i.zero, i.size, i.bytes)) = some (some (.slice none 0 0), 1, 24) := by kernel_rfl

set_option maxHeartbeats 400000 in
theorem split_any (A A2 : Option Addr) (l : List UInt8) (zs : List Int) (c c2 lo hi : Nat) (w : World) (h : Rd w lo hi A (cells l)) (h2 : Rd w lo hi A2 (ints zs)) (hhi : hi ≤ w.heap.size)
    (hl : l.length ≤ 1000000000) (hz : zs.length ≤ 1000000000) (hc : l.length ≤ c) (_hm : c ≤ maxLen) :
    Calls Try.prog 50 #[.slice A l.length c, .slice A2 zs.length c2] w (SplitPost w (splitS l zs)) := by
  unfold maxLen at _hm
  obtain ⟨i0, hi0, hz0, hz1, hz2⟩ := info_parts info23
  go_enter Try.func50, Try.ntmps50
  go_wp2
  go_loopw [0, 6, 11] (fun b v i wr => ∃ (k : Nat) (A' : Option Addr) (c' : Nat) (l' : List UInt8) (acc : List (List UInt8)) (vs : List Value), k ≤ zs.length ∧ i = .int .i64 k ∧ b = .slice A' l'.length c' ∧ l'.length ≤ c' ∧ c' ≤ c ∧ Rd w lo hi A' (cells l') ∧
      wr.ownsRow w.heap.size 24 1 v acc.length vs ∧ Parts wr w.heap.size vs acc ∧ acc.length = k ∧ l'.length ≤ l.length ∧ Below w.heap.size w wr ∧ splitS l zs = splitGo acc l' (zs.drop k)) (fun _ _ i _ => zs.length - (intOf i).toNat)
  case atStart => exact ⟨0, A, c, l, [], [], Nat.zero_le _, rfl, rfl, hc, Nat.le_refl _, h, World.ownsRow_nil _ _ _ _, ⟨rfl, by simp⟩, rfl, Nat.le_refl _, Below.refl _ _, rfl⟩
  case round =>
    obtain ⟨k, A', c', l', acc, vs, hk, rfl, rfl, hlc, hcc, hrd, hown, hpts, hak, hll, hbl, hsp⟩ := hrel
    have HSP : Hid (splitS l zs = splitGo acc l' (zs.drop k)) := hsp
    have HAK : Hid (acc.length = k) := hak
    have hak2 : acc.length ≤ k := by omega
    clear hsp hak
    by_cases hkz : k < zs.length
    · obtain ⟨z, hzz⟩ : ∃ z, zs[k] = z := ⟨_, rfl⟩
      have HZ : Hid (zs[k] = z) := hzz
      obtain ⟨ad2, hA2, hcell2⟩ : ∃ ad2, A2 = some ad2 ∧ wr.cell? (ad2.add k) = some (.int .i64 z) := by
        obtain ⟨ad, e, _, _, hc⟩ := (h2.below hbl hhi) k (.int .i64 z) (by simp [ints, hkz, hzz])
        exact ⟨ad, e, hc⟩
      rw [hA2]
      clear hzz hA2
      by_cases hneg : z < 0
      · have HE := Lib.hid (split_none (HSP.out.trans (splitGo_neg acc l' zs k z hkz HZ.out hneg)) hbl)
        go_wp2
        go_ret2
        exact HE.out
      · obtain ⟨n, hn⟩ := Int.eq_ofNat_of_zero_le (show 0 ≤ z by omega)
        have HZN : Hid (zs[k] = (n : Int)) := HZ.out.trans hn
        rw [hn] at hcell2 hneg
        clear HZ hn
        by_cases hzl : (l'.length : Int) < n
        · have HE := Lib.hid (split_none (HSP.out.trans (splitGo_cut acc l' zs k n hkz HZN.out hzl)) hbl)
          go_wp2
          go_ret2
          exact HE.out
        · have hnl : n ≤ l'.length := by omega
          have HT : Hid (Rd wr lo hi A' (cells (l'.take n))) := by
            have := (hrd.below hbl hhi).take n
            rwa [cells_take] at this
          go_wp2_with fail
          refine (clone_len A' (l'.take n) n c' lo hi _ HT.out (by simp; omega) (by simp; omega)).mono ?_
          rintro e w1 ⟨A1, c1, rfl, hown1, hb1⟩
          have hownk : w1.ownsRow w.heap.size 24 1 u6 acc.length vs := own_below hown hb1 (Nat.le_refl _)
          go_wp2_with (at_builtin; refine wpList_append_own _ rfl _ _ 98 rfl w.heap.size 24 i0 (.slice none 0 0) 1 24 Try.underlying98 hi0 hz0 hz1 hz2 rfl (by decide) _ _ _ rfl (hownk.alloc _) ⟨w1.heap.size, 0, none⟩ 1 1 [.slice A1 n c1] rfl rfl (cell_one_new _ _ _) (by intro u hu; simp at hu; subst hu; rfl) (by unfold maxLen; omega) (by omega) (by have := hbl.size; have := hb1.size; simp; omega) ?_; intro v2 w2 hown2 hgrow2 hnn)
          have hP : Parts w2 w.heap.size (vs ++ [.slice A1 n c1]) (acc ++ [l'.take n]) := by
            have hlen : (l'.take n).length = n := by rw [List.length_take]; omega
            have := parts_step (p := l'.take n) (A := A1) (c := c1) hpts hownk hb1 hbl.size (by rw [hlen]; exact hown1) hgrow2
            rwa [hlen] at this
          have hB2 : Below w.heap.size w w2 := ((hbl.trans (hb1.mono hbl.size)).alloc (by have := hbl.size; have := hb1.size; omega) _).grown hgrow2 (by have := hbl.size; have := hb1.size; simp; omega) fun g hg => (hown.lt g hg).1
          have HS2 : Hid (splitS l zs = splitGo (acc ++ [l'.take n]) (l'.drop n) (zs.drop (k + 1))) := HSP.out.trans (splitGo_step acc l' zs k n hkz HZN.out hnl)
          have HR2 : Hid (Rd w lo hi (if c' = n then A' else A'.map (·.add n)) (cells (l'.drop n))) := by
            show Rd _ _ _ _ _
            split
            · rename_i hcn
              rw [List.drop_eq_nil_of_le (by omega)]
              exact Rd.nil
            · rw [← cells_drop]
              exact hrd.drop n
          have HV : Hid (w2.ownsRow w.heap.size 24 1 v2 (acc ++ [l'.take n]).length (vs ++ [.slice A1 n c1])) := by
            rw [List.length_append]
            exact hown2
          clear hown2 hgrow2 hnn hownk
          go_roundw
          case rel => exact ⟨k + 1, _, _, l'.drop n, acc ++ [l'.take n], _, by omega, by go_num, by rw [List.length_drop], by rw [List.length_drop]; omega, by omega, HR2.out, HV.out, hP, by rw [List.length_append, HAK.out]; rfl, by rw [List.length_drop]; omega, hB2, HS2.out⟩
          case measure => simp [intOf]; omega
    · obtain rfl : k = zs.length := by omega
      go_wp2_with fail
      refine (clone_any A' l' c' lo hi _ (hrd.below hbl hhi) (by omega)).mono ?_
      rintro e w1 ⟨A1, c1, rfl, hown1, hb1⟩
      have hownk : w1.ownsRow w.heap.size 24 1 u6 acc.length vs := own_below hown hb1 (Nat.le_refl _)
      go_wp2_with (at_builtin; refine wpList_append_own _ rfl _ _ 98 rfl w.heap.size 24 i0 (.slice none 0 0) 1 24 Try.underlying98 hi0 hz0 hz1 hz2 rfl (by decide) _ _ _ rfl (hownk.alloc _) ⟨w1.heap.size, 0, none⟩ 1 1 [.slice A1 l'.length c1] rfl rfl (cell_one_new _ _ _) (by intro u hu; simp at hu; subst hu; rfl) (by unfold maxLen; omega) (by omega) (by have := hbl.size; have := hb1.size; simp; omega) ?_; intro v2 w2 hown2 hgrow2 hnn)
      have hP : Parts w2 w.heap.size (vs ++ [.slice A1 l'.length c1]) (acc ++ [l']) := parts_step hpts hownk hb1 hbl.size hown1 hgrow2
      have hB2 : Below w.heap.size w w2 := ((hbl.trans (hb1.mono hbl.size)).alloc (by have := hbl.size; have := hb1.size; omega) _).grown hgrow2 (by have := hbl.size; have := hb1.size; simp; omega) fun g hg => (hown.lt g hg).1
      have HE : Hid (SplitPost w (splitS l zs) (.returned (.tuple #[v2, .int .i64 0])) w2) := by
        rw [HSP.out, List.drop_length]
        have hl2 : acc.length + 1 = (acc ++ [l']).length := by simp
        rw [hl2] at hown2
        obtain ⟨A2', c2', rfl⟩ := own_form hown2
        exact ⟨A2', c2', _, rfl, hown2, hP, hB2⟩
      clear hown2 hgrow2 hnn hownk hP hB2
      go_ret2
      exact HE.out
end Go.Proofs.Ytjgdmkmfnkaoaaa
