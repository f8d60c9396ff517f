/-
  The document's own answer for the frame of bytes (caravelref05.Parse): what the plain function gives, the body in a row of the call's own. Every text.
-/
import Derived.Test.YtooepllgefndnaaAds
import Derived.Deep.RegionHeld
namespace Go.Proofs.Ytooepllgefndnaa
open Go.RowKit

set_option maxRecDepth 100000 in
set_option maxHeartbeats 1000000 in
theorem refparse_long (l : List UInt8) (w : World) (hn : 214 < l.length) (hm : l.length ≤ 9223372036854775807) :
    Calls Try.prog 14 #[txt l] w (ParsePost w (Fr.zero, 4)) := by
  have HB := Lib.hid ((Below.refl w.heap.size w).alloc (Nat.le_refl _) (.cells #[.int .u8 0, .int .u8 0, .int .u8 0, .int .u8 0, .int .u8 0, .int .u8 0, .int .u8 0, .int .u8 0, .int .u8 0, .int .u8 0, .int .u8 0, .int .u8 0, .int .u16 0, .slice none 0 0] 27))
  have HG := Lib.hid (heap_alloc_new w (.cells #[.int .u8 0, .int .u8 0, .int .u8 0, .int .u8 0, .int .u8 0, .int .u8 0, .int .u8 0, .int .u8 0, .int .u8 0, .int .u8 0, .int .u8 0, .int .u8 0, .int .u16 0, .slice none 0 0] 27))
  go_enter Try.func14, Try.ntmps14
  go_wp2
  refine ret_row (g := w.heap.size) (cs := #[.int .u8 0, .int .u8 0, .int .u8 0, .int .u8 0, .int .u8 0, .int .u8 0, .int .u8 0, .int .u8 0, .int .u8 0, .int .u8 0, .int .u8 0, .int .u8 0, .int .u16 0, .slice none 0 0]) rfl rfl (load_fr HG.out rfl) rfl ?_
  exact ⟨_, rfl, zero_frV _ _ _, HB.out⟩
set_option maxRecDepth 100000 in
set_option maxHeartbeats 1000000 in
theorem refparse_cut (l : List UInt8) (w : World) (hn : l.length < 14) :
    Calls Try.prog 14 #[txt l] w (ParsePost w (Fr.zero, 6)) := by
  have HB := Lib.hid ((Below.refl w.heap.size w).alloc (Nat.le_refl _) (.cells #[.int .u8 0, .int .u8 0, .int .u8 0, .int .u8 0, .int .u8 0, .int .u8 0, .int .u8 0, .int .u8 0, .int .u8 0, .int .u8 0, .int .u8 0, .int .u8 0, .int .u16 0, .slice none 0 0] 27))
  have HG := Lib.hid (heap_alloc_new w (.cells #[.int .u8 0, .int .u8 0, .int .u8 0, .int .u8 0, .int .u8 0, .int .u8 0, .int .u8 0, .int .u8 0, .int .u8 0, .int .u8 0, .int .u8 0, .int .u8 0, .int .u16 0, .slice none 0 0] 27))
  go_enter Try.func14, Try.ntmps14
  go_wp2
  refine ret_row (g := w.heap.size) (cs := #[.int .u8 0, .int .u8 0, .int .u8 0, .int .u8 0, .int .u8 0, .int .u8 0, .int .u8 0, .int .u8 0, .int .u8 0, .int .u8 0, .int .u8 0, .int .u8 0, .int .u16 0, .slice none 0 0]) rfl rfl (load_fr HG.out rfl) rfl ?_
  exact ⟨_, rfl, zero_frV _ _ _, HB.out⟩

/-- a text's bytes in a new row: how much room, and the world -/
def capB (w : World) (n : Nat) : Nat := grownCap w n 0 5
def bwB (w : World) (l : List UInt8) : World := w.drew.alloc (.cells (bytesRow ⟨l.toArray⟩ (grownCap w l.length 0 5)) 5 ((bytesRow ⟨l.toArray⟩ (grownCap w l.length 0 5)).size, (bytesRow ⟨l.toArray⟩ (grownCap w l.length 0 5)).size + 1))
theorem run_bytes (w : World) (l : List UInt8) (n : Nat) (hn : l.length = n) : (convert 9 25 (.string ⟨l.toArray⟩)).run Try.prog w = .ok (.slice (some ⟨w.heap.size, 0, none⟩) n (capB w n)) (bwB w l) := by
  subst hn
  exact run_bytes_of_string w 9 25 5 ⟨l.toArray⟩ Try.underlying9 Try.underlying25 Try.underlying5
theorem bw_size (w : World) (l : List UInt8) : (bwB w l).heap.size = w.heap.size + 1 := by unfold bwB; simp
theorem bw_below {B : Nat} {a w : World} (h : Below B a w) (hB : B ≤ w.heap.size) (l : List UInt8) : Below B a (bwB w l) := by
  unfold bwB
  exact (h.drew).alloc hB _
theorem bw_rd (w : World) (l : List UInt8) : Rd (bwB w l) w.heap.size (w.heap.size + 1) (some ⟨w.heap.size, 0, none⟩) (cells l) := by
  refine rd_mid (cs := bytesRow ⟨l.toArray⟩ (grownCap w l.length 0 5)) (t := 5) (heap_alloc_new w.drew _) fun k u hu => ?_
  have hk := (List.getElem?_eq_some_iff.1 hu).1
  rw [cells_length] at hk
  rw [cells_get l k hk] at hu
  cases hu
  rw [Nat.zero_add, bytesRow_at _ _ k (by simpa using hk)]
  simp
theorem cap_ok (w : World) (n : Nat) (hn : n ≤ 1000000000) : n ≤ capB w n ∧ capB w n ≤ maxLen := ⟨grownCap_ge w _ _ _, grownCap_le_maxLen w n 0 5 (by unfold maxLen; omega)⟩

/-- block b of fourteen cells lies there, free to be written; what lies below is as it was in w0 -/
def Sx (b : Nat) (w0 w : World) : Prop := Below b w0 w ∧ ∃ cs t, w.heap[b]? = some (.cells cs t (0, 0)) ∧ cs.size = 14
def oldv (w : World) (b k : Nat) : Value := (w.cell? ⟨b, k, none⟩).getD undef
theorem Sx.cell {b : Nat} {w0 w : World} (h : Sx b w0 w) (k : Nat) (hk : k < 14) : w.cell? ⟨b, k, none⟩ = some (oldv w b k) := by
  obtain ⟨_, cs, t, hg, hs⟩ := h
  unfold oldv
  rw [cell_of_row _ _ _ _ _ _ hg, Array.getElem?_eq_getElem (by omega)]
  rfl
theorem Sx.free {b : Nat} {w0 w : World} (h : Sx b w0 w) (k : Nat) : w.frozen? ⟨b, k, none⟩ = false := by
  obtain ⟨_, cs, t, hg, hs⟩ := h
  exact frozen_of_row _ _ _ _ _ hg
theorem Sx.lt {b : Nat} {w0 w : World} (h : Sx b w0 w) : b < w.heap.size := by
  obtain ⟨_, cs, t, hg, hs⟩ := h
  exact row_lt hg
theorem Sx.drew {b : Nat} {w0 w : World} (h : Sx b w0 w) : Sx b w0 w.drew := ⟨h.1.drew, h.2⟩
theorem Sx.below {b : Nat} {w0 w w' : World} (h : Sx b w0 w) (hb : Below w.heap.size w w') : Sx b w0 w' := by
  have hlt := h.lt
  obtain ⟨h1, cs, t, hg, hs⟩ := h
  exact ⟨h1.trans (hb.mono (by omega)), cs, t, (hb.block _ hlt).trans hg, hs⟩
theorem Sx.bytes {b : Nat} {w0 w : World} (h : Sx b w0 w) (l : List UInt8) : Sx b w0 (bwB w l) := h.below (bw_below (Below.refl _ _) (Nat.le_refl _) l)
theorem Sx.set {b : Nat} {w0 w : World} (h : Sx b w0 w) (k : Nat) (v : Value) : Sx b w0 (w.setCell ⟨b, k, none⟩ v) := by
  obtain ⟨h1, cs, t, hg, hs⟩ := h
  exact ⟨h1.setCell (p := ⟨b, k, none⟩) (Nat.le_refl _) v, _, t, heap_setCell_same _ _ _ _ _ _ hg, by simpa using hs⟩
theorem set_row {w : World} {b k : Nat} {v : Value} {cs : Array Value} {t : TypeId} (h : (w.setCell ⟨b, k, none⟩ v).heap[b]? = some (.cells cs t (0, 0))) : ∃ c0, w.heap[b]? = some (.cells c0 t (0, 0)) ∧ cs = c0.setIfInBounds k v := by
  simp only [World.setCell, Array.getElem?_modify, if_pos] at h
  cases hw : w.heap[b]? with
  | none => rw [hw] at h; cases h
  | some o =>
    rw [hw] at h
    cases o <;> simp at h
    obtain ⟨h1, h2, h3⟩ := h
    subst h2 h3
    exact ⟨_, rfl, h1.symm⟩
theorem arr14 (cs : Array Value) (h : cs.size = 14) : ∃ u0 u1 u2 u3 u4 u5 u6 u7 u8 u9 u10 u11 u12 u13, cs = #[u0, u1, u2, u3, u4, u5, u6, u7, u8, u9, u10, u11, u12, u13] := by
  obtain ⟨l⟩ := cs
  match l, h with
  | [u0, u1, u2, u3, u4, u5, u6, u7, u8, u9, u10, u11, u12, u13], _ => exact ⟨u0, u1, u2, u3, u4, u5, u6, u7, u8, u9, u10, u11, u12, u13, rfl⟩
/-- fourteen stores into the row: what lies there then -/
theorem set14 {w w0 : World} {b : Nat} (v0 v1 v2 v3 v4 v5 v6 v7 v8 v9 v10 v11 v12 v13 : Value) (h : Sx b w0 ((((((((((((((w.setCell ⟨b, 0, none⟩ v0).setCell ⟨b, 1, none⟩ v1).setCell ⟨b, 2, none⟩ v2).setCell ⟨b, 3, none⟩ v3).setCell ⟨b, 4, none⟩ v4).setCell ⟨b, 5, none⟩ v5).setCell ⟨b, 6, none⟩ v6).setCell ⟨b, 7, none⟩ v7).setCell ⟨b, 8, none⟩ v8).setCell ⟨b, 9, none⟩ v9).setCell ⟨b, 10, none⟩ v10).setCell ⟨b, 11, none⟩ v11).setCell ⟨b, 12, none⟩ v12).setCell ⟨b, 13, none⟩ v13)) : ∃ t, (((((((((((((((w.setCell ⟨b, 0, none⟩ v0).setCell ⟨b, 1, none⟩ v1).setCell ⟨b, 2, none⟩ v2).setCell ⟨b, 3, none⟩ v3).setCell ⟨b, 4, none⟩ v4).setCell ⟨b, 5, none⟩ v5).setCell ⟨b, 6, none⟩ v6).setCell ⟨b, 7, none⟩ v7).setCell ⟨b, 8, none⟩ v8).setCell ⟨b, 9, none⟩ v9).setCell ⟨b, 10, none⟩ v10).setCell ⟨b, 11, none⟩ v11).setCell ⟨b, 12, none⟩ v12).setCell ⟨b, 13, none⟩ v13)).heap[b]? = some (.cells #[v0, v1, v2, v3, v4, v5, v6, v7, v8, v9, v10, v11, v12, v13] t (0, 0)) := by
  obtain ⟨_, cs, t, hg, hs⟩ := h
  refine ⟨t, ?_⟩
  obtain ⟨c13, g13, e13⟩ := set_row hg
  obtain ⟨c12, g12, e12⟩ := set_row g13
  obtain ⟨c11, g11, e11⟩ := set_row g12
  obtain ⟨c10, g10, e10⟩ := set_row g11
  obtain ⟨c9, g9, e9⟩ := set_row g10
  obtain ⟨c8, g8, e8⟩ := set_row g9
  obtain ⟨c7, g7, e7⟩ := set_row g8
  obtain ⟨c6, g6, e6⟩ := set_row g7
  obtain ⟨c5, g5, e5⟩ := set_row g6
  obtain ⟨c4, g4, e4⟩ := set_row g5
  obtain ⟨c3, g3, e3⟩ := set_row g4
  obtain ⟨c2, g2, e2⟩ := set_row g3
  obtain ⟨c1, g1, e1⟩ := set_row g2
  obtain ⟨c0, g0, e0⟩ := set_row g1
  rw [hg]
  have hs0 : c0.size = 14 := by rw [e13, e12, e11, e10, e9, e8, e7, e6, e5, e4, e3, e2, e1, e0] at hs; simpa using hs
  obtain ⟨u0, u1, u2, u3, u4, u5, u6, u7, u8, u9, u10, u11, u12, u13, rfl⟩ := arr14 c0 hs0
  rw [e13, e12, e11, e10, e9, e8, e7, e6, e5, e4, e3, e2, e1, e0]
  simp only [List.setIfInBounds_toArray, List.set_cons_zero, List.set_cons_succ]

end Go.Proofs.Ytooepllgefndnaa
