/-
  What a packet's value reads as; predicates for rows of rows; ip4.placed. No condition.
-/
import Derived.Test.YtbmjjhflaocgiaaMade
import Derived.Deep.MidRow
namespace Go.Proofs.Ytbmjjhflaocgiaa
open Go.RowKit

/-- a packet's cells, the data as v -/
def pkC (p : Pk) (v : Value) : List Value := .int .u16 p.id :: .bool p.more :: .int .i64 p.off :: .int .u8 (p.ttl.toNat : Int) :: .int .u8 (p.proto.toNat : Int) :: (cells p.src ++ cells p.dst ++ [v])
/-- cells that read as a packet -/
def PkV (w : World) (lo hi : Nat) (cs : Array Value) (p : Pk) : Prop :=
  ∃ A c, cs = (pkC p (.slice A p.data.length c)).toArray ∧ p.ok ∧ (-9223372036854775808 ≤ p.off ∧ p.off ≤ 9223372036854775807) ∧ Rd w lo hi A (cells p.data) ∧ p.data.length ≤ c ∧ c ≤ maxLen ∧ (A = none → c = 0)
theorem PkV.below {w w' : World} {lo hi B : Nat} {cs : Array Value} {p : Pk} (h : PkV w lo hi cs p) (hb : Below B w w') (hB : hi ≤ B) : PkV w' lo hi cs p := by
  obtain ⟨A, c, e, h1, h0, h2, h3⟩ := h
  exact ⟨A, c, e, h1, h0, h2.below hb hB, h3⟩
theorem PkV.wide {w : World} {lo hi lo' hi' : Nat} {cs : Array Value} {p : Pk} (h : PkV w lo hi cs p) (h1 : lo' ≤ lo) (h2 : hi ≤ hi') : PkV w lo' hi' cs p := by
  obtain ⟨A, c, e, h3, h0, h4, h5⟩ := h
  exact ⟨A, c, e, h3, h0, h4.wide h1 h2, h5⟩
theorem pkC_size {p : Pk} (h : p.ok) (v : Value) : (pkC p v).toArray.size = 14 := by
  obtain ⟨_, h1, h2⟩ := h
  simp [pkC, cells_length, h1, h2]
theorem PkV.size {w : World} {lo hi : Nat} {cs : Array Value} {p : Pk} (h : PkV w lo hi cs p) : cs.size = 14 := by
  obtain ⟨A, c, rfl, h1, _⟩ := h
  exact pkC_size h1 _
theorem pkC_13 {p : Pk} (h : p.ok) (v : Value) : (pkC p v)[13]? = some v := by
  obtain ⟨_, h1, h2⟩ := h
  simp [pkC, cells_length, h1, h2]
theorem pkC_src (p : Pk) (v : Value) : ∀ (k : Nat) u, (cells p.src)[k]? = some u → (pkC p v)[5 + k]? = some u := by
  intro k u hu
  have hk := (List.getElem?_eq_some_iff.1 hu).1
  rw [show 5 + k = k + 1 + 1 + 1 + 1 + 1 from by omega]
  simp only [pkC, List.getElem?_cons_succ]
  rw [List.append_assoc, List.getElem?_append_left hk]
  exact hu
theorem pkC_dst {p : Pk} (h : p.ok) (v : Value) : ∀ (k : Nat) u, (cells p.dst)[k]? = some u → (pkC p v)[9 + k]? = some u := by
  intro k u hu
  have hk := (List.getElem?_eq_some_iff.1 hu).1
  have hs : (cells p.src).length = 4 := by rw [cells_length]; exact h.2.1
  rw [show 9 + k = (4 + k) + 1 + 1 + 1 + 1 + 1 from by omega]
  simp only [pkC, List.getElem?_cons_succ]
  rw [List.append_assoc, List.getElem?_append_right (by omega), hs, show 4 + k - 4 = k from by omega, List.getElem?_append_left hk]
  exact hu
theorem zero_pkV (w : World) (lo hi : Nat) : PkV w lo hi #[.int .u16 0, .bool false, .int .i64 0, .int .u8 0, .int .u8 0, .int .u8 0, .int .u8 0, .int .u8 0, .int .u8 0, .int .u8 0, .int .u8 0, .int .u8 0, .int .u8 0, .slice none 0 0] Pk.zero :=
  ⟨none, 0, rfl, ⟨by decide, rfl, rfl⟩, ⟨by decide, by decide⟩, Rd.nil, Nat.le_refl _, Nat.zero_le _, fun _ => rfl⟩

/-- a slice of slices of bytes -/
def Lists (ps : List (List UInt8)) : Pred := fun v w => ∃ g vs, v = .slice (some ⟨g, 0, none⟩) ps.length ps.length ∧ Rd w 0 w.heap.size (some ⟨g, 0, none⟩) vs ∧ Bits w 0 w.heap.size vs ps
/-- bytes that the call owns -/
def Owned (B : Nat) (l : List UInt8) : Pred := fun v w => ∃ A c, v = .slice A l.length c ∧ OwnB w B (.slice A l.length c) l
theorem Bits.below {w w' : World} {lo hi B : Nat} {vs : List Value} {ps : List (List UInt8)} (h : Bits w lo hi vs ps) (hb : Below B w w') (hB : hi ≤ B) : Bits w' lo hi vs ps :=
  ⟨h.1, fun i p hp => by
    obtain ⟨A, c, h1, h2, h3⟩ := h.2 i p hp
    exact ⟨A, c, h1, h2.below hb hB, h3⟩⟩
theorem Bits.wide {w : World} {lo hi lo' hi' : Nat} {vs : List Value} {ps : List (List UInt8)} (h : Bits w lo hi vs ps) (hl : lo' ≤ lo) (hh : hi ≤ hi') : Bits w lo' hi' vs ps :=
  ⟨h.1, fun i p hp => by
    obtain ⟨A, c, h1, h2, h3⟩ := h.2 i p hp
    exact ⟨A, c, h1, h2.wide hl hh, h3⟩⟩
theorem fresh_mono (B : Nat) (l : List UInt8) : Mono (Fresh B l) := fun _ _ _ hb h => h.grow hb
theorem lists_mono (ps : List (List UInt8)) : Mono (Lists ps) := fun _ _ _ hb h => by
  obtain ⟨g, vs, e, h1, h2⟩ := h
  exact ⟨g, vs, e, (h1.below hb (Nat.le_refl _)).wide (Nat.le_refl _) hb.size, (h2.below hb (Nat.le_refl _)).wide (Nat.le_refl _) hb.size⟩
theorem owned_mono (B : Nat) (l : List UInt8) : Mono (Owned B l) := fun _ _ _ hb h => by
  obtain ⟨A, c, e, h1⟩ := h
  exact ⟨A, c, e, own_below h1 hb (Nat.le_refl _)⟩
/-- a part whose bytes are fresh, as one of a row of rows, the row in a new block -/
theorem fresh_bits {w : World} {B : Nat} {l : List UInt8} {A : Option Addr} {c : Nat} {vs : List Value} {ps : List (List UInt8)} (h1 : Rd w B w.heap.size A (cells l)) (h2 : A = none → c = 0) (h : Bits w 0 w.heap.size vs ps) : Bits w 0 w.heap.size (.slice A l.length c :: vs) (l :: ps) :=
  .cons (h1.wide (Nat.zero_le _) (Nat.le_refl _)) h2 h
theorem lists_new {w : World} {vs : List Value} {ps : List (List UInt8)} (h : Bits w 0 w.heap.size vs ps) (t : TypeId) : Lists ps (.slice (some ⟨w.heap.size, 0, none⟩) ps.length ps.length) (w.alloc (.cells vs.toArray t)) :=
  ⟨w.heap.size, vs, rfl, (rd_new w vs t (0, 0)).wide (Nat.zero_le _) (by simp), (h.alloc (Nat.le_refl _) _).wide (Nat.le_refl _) (by simp)⟩

/-- a piece of a block as a slice's cells -/
theorem rd_mid {w : World} {b o : Nat} {cs : Array Value} {t : TypeId} {fr : Nat × Nat} {xs : List Value} (hg : w.heap[b]? = some (.cells cs t fr)) (h : ∀ (k : Nat) u, xs[k]? = some u → cs[o + k]? = some u) :
    Rd w b (b + 1) (some ⟨b, o, none⟩) xs := by
  intro k u hu
  refine ⟨_, rfl, Nat.le_refl _, Nat.lt_succ_self _, ?_⟩
  have e : ((⟨b, o, none⟩ : Addr).add k) = ⟨b, o + k, none⟩ := by
    unfold Addr.add
    by_cases hk : k = 0 <;> simp [hk]
  rw [e, cell_of_row _ _ _ cs t fr hg]
  exact h k u hu
theorem row_lt {w : World} {b : Nat} {o : Obj} (h : w.heap[b]? = some o) : b < w.heap.size := (Array.getElem?_eq_some_iff.1 h).1
theorem old_alloc {w : World} {b : Nat} {o : Obj} (h : w.heap[b]? = some o) (o2 : Obj) : (w.alloc o2).heap[b]? = some o := (Below.heap_alloc _ _ _ (row_lt h)).trans h

theorem placed_any (cs : Array Value) (p : Pk) (A : Option Addr) (c : Nat) (w : World) (he : cs = (pkC p (.slice A p.data.length c)).toArray) (hok : p.ok) (hoff : -9223372036854775808 ≤ p.off ∧ p.off ≤ 9223372036854775807) (hm : p.data.length ≤ maxLen) :
    Calls Try.prog 16 #[.agg cs] w fun e w' => e = .returned (.bool (placedB p)) ∧ Below w.heap.size w w' := by
  have h1 : cs[1]? = some (.bool p.more) := by subst he; rfl
  have h2 : cs[2]? = some (.int .i64 p.off) := by subst he; rfl
  have h13 : cs[13]? = some (.slice A p.data.length c) := by subst he; rw [List.getElem?_toArray]; exact pkC_13 hok _
  have HB := Lib.hid ((Below.refl w.heap.size w).alloc (Nat.le_refl _) (.cells cs 27))
  have HP := Lib.hid (placed_iff p)
  obtain ⟨id, more, off, ttl, proto, src, dst, data⟩ := p
  simp only at h1 h2 h13 HP hoff hm
  unfold maxLen at hm
  generalize data.length = n at *
  obtain ⟨r, hr⟩ : ∃ r, placedB ⟨id, more, off, ttl, proto, src, dst, data⟩ = r := ⟨_, rfl⟩
  rw [hr] at HP ⊢
  clear he hok hr
  by_cases c1 : off < 0
  · have HF : Hid (r = false) := by
      show r = false
      cases r
      · rfl
      · have := (HP.out.1 rfl).1.1; omega
    go_enter Try.func16, Try.ntmps16
    go_wp2
    go_ret
    exact ⟨by rw [HF.out]; rfl, HB.out⟩
  · by_cases c2 : 65528 < off
    · have HF : Hid (r = false) := by
        show r = false
        cases r
        · rfl
        · have := (HP.out.1 rfl).1.2.1; omega
      have c3 : 0 ≤ off := by omega
      clear c1
      go_enter Try.func16, Try.ntmps16
      go_wp2
      go_ret
      exact ⟨by rw [HF.out]; rfl, HB.out⟩
    · have c3 : 0 ≤ off := by omega
      have c4 : off ≤ 65528 := by omega
      clear c1 c2
      by_cases c5 : off % 8 = 0
      · have c6 : (off % 8 != 0) = false := bneF c5
        have C5 := Lib.hid c5
        clear c5
        cases more
        · have HF : Hid (r = true) := HP.out.2 ⟨⟨c3, c4, C5.out⟩, fun h => by cases h⟩
          go_enter Try.func16, Try.ntmps16
          go_wp2
          go_ret
          exact ⟨by rw [HF.out]; rfl, HB.out⟩
        · by_cases c7 : n % 8 = 0
          · have HF : Hid (r = true) := HP.out.2 ⟨⟨c3, c4, C5.out⟩, fun _ => c7⟩
            have c8 : ((n : Int) % 8 == 0) = true := beqT (by omega)
            clear c7
            go_enter Try.func16, Try.ntmps16
            go_wp2
            go_ret
            exact ⟨by rw [HF.out]; rfl, HB.out⟩
          · have HF : Hid (r = false) := by
              show r = false
              cases r
              · rfl
              · exact absurd ((HP.out.1 rfl).2 rfl) c7
            have c8 : ((n : Int) % 8 == 0) = false := beqF (by omega)
            clear c7
            go_enter Try.func16, Try.ntmps16
            go_wp2
            go_ret
            exact ⟨by rw [HF.out]; rfl, HB.out⟩
      · have c6 : (off % 8 != 0) = true := bneT c5
        have HF : Hid (r = false) := by
          show r = false
          cases r
          · rfl
          · exact absurd (HP.out.1 rfl).1.2.2 c5
        clear c5
        go_enter Try.func16, Try.ntmps16
        go_wp2
        go_ret
        exact ⟨by rw [HF.out]; rfl, HB.out⟩
end Go.Proofs.Ytbmjjhflaocgiaa
