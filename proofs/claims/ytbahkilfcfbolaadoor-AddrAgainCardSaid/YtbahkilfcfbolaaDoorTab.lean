/-
  Worlds in which the library's table of powers of ten lies and the longest search's bound is a number: what strconv.Itoa, strings.Cut, strings.SplitN and strings.Join leave there. No condition besides.
-/
import Derived.Test.YtbahkilfcfbolaaDoorShelf
import Derived.Test.YtbahkilfcfbolaaDoorMem
import Derived.Test.YtbahkilfcfbolaaDoorRef
import Derived.Test.YtbahkilfcfbolaaDoorText
import Derived.WalkSmall
import Derived.Lib.LaidTab
namespace Go.Proofs.YtbahkilfcfbolaaDoor
open Go.RowKit

/-- the table and the bound are there -/
def Ready (w : World) : Prop := Lib.TabIs Tryd.prog w "internal/strconv.uint64pow10" .u64 Lib.pow10Tab ∧ ∃ m, w.cell? ⟨0, 0, none⟩ = some (.int .i64 m)
theorem gPow : Tryd.prog.globalNamed "internal/strconv.uint64pow10" = some 1 := by kernel_rfl
theorem Ready.big {w : World} (h : Ready w) : 1 < w.heap.size := by
  have := h.1.cell gPow 0 (by decide)
  exact cell_lt this
theorem Ready.below {w w' : World} {B : Nat} (h : Ready w) (hb : Below B w w') (hB : w.heap.size ≤ B) : Ready w' := by
  obtain ⟨h1, m, hm⟩ := h
  refine ⟨var?_below hb gPow (by have := Ready.big ⟨h1, m, hm⟩; omega) h1, m, ?_⟩
  have hlt := cell_lt hm
  exact (hb.cell (p := ⟨0, 0, none⟩) (by show 0 < B; have : 0 < w.heap.size := hlt; omega)).trans hm

theorem below_grow' (w : World) (k : Nat) (os : Array Obj) : Below w.heap.size w (Sort.grow (w.drewN k) os) :=
  ⟨rfl, rfl, rfl, by show w.heap.size ≤ (w.heap ++ os).size; rw [Array.size_append]; omega, fun j hj => by show (w.heap ++ os)[j]? = w.heap[j]?; exact Array.getElem?_append_left hj⟩
theorem itoa_any (n : Nat) (hn : n ≤ 9223372036854775807) (w : World) (hR : Ready w) :
    Calls Tryd.prog 29 #[.int .i64 n] w fun e w' => e = .returned (txt (dec n)) ∧ Below w.heap.size w w' := by
  refine (Tryd.strconv_Itoa n (by omega) (by omega) w hR.1).mono ?_
  rintro e w' ⟨rfl, k, os, rfl⟩
  refine ⟨?_, below_grow' w k os⟩
  unfold Lib.itoa
  rw [if_neg (by omega)]
  simp

/-- the text ahead of the first mark, what is behind it, and whether there is one -/
theorem cut_any (l : List UInt8) (c : UInt8) (w : World) (hl : l.length ≤ 1000000000) (hR : Ready w) :
    Calls Tryd.prog 25 #[txt l, txt [c]] w fun e w' => e = .returned (.tuple #[txt (Lib.cut l [c]).1, txt (Lib.cut l [c]).2.1, .bool (Lib.cut l [c]).2.2]) ∧ Below w.heap.size w w' := by
  obtain ⟨_, m, hm⟩ := hR
  refine (Tryd.strings_Cut ⟨l.toArray⟩ ⟨#[c]⟩ m w (by simp [ByteArray.size]; omega) hm).mono ?_
  rintro e w' ⟨rfl, n, rfl⟩
  exact ⟨rfl, below_drewN' (Below.refl _ _) n⟩

/-- texts as cells -/
def txts (ps : List (List UInt8)) : List Value := ps.map txt

/-- the parts of a text, one more than there may be -/
theorem splitN_any (l : List UInt8) (c : UInt8) (n : Nat) (w : World) (hl : l.length ≤ 1000000000) (hn : n ≤ 1000) (hR : Ready w) :
    Calls Tryd.prog 38 #[txt l, txt [c], .int .i64 ((n : Int) + 1)] w fun e w' => ∃ cap, e = .returned (.slice (some ⟨w.heap.size, 0, none⟩) (parts c n l).length cap) ∧ (parts c n l).length ≤ n + 1 ∧
      Rd w' w.heap.size w'.heap.size (some ⟨w.heap.size, 0, none⟩) (txts (parts c n l)) ∧ Below w.heap.size w w' := by
  obtain ⟨_, m, hm⟩ := hR
  have hsz : (⟨l.toArray⟩ : ByteArray).size = l.length := by simp [ByteArray.size]
  have hlen : (Lib.splitB ⟨#[c]⟩ 0 (min (n + 1) (l.length + 1) - 1) ⟨l.toArray⟩).map (·.data.toList) = parts c n l := Lib.splitB_data _ 0 _ _
  have hlen2 : (Lib.splitB ⟨#[c]⟩ 0 (min (n + 1) (l.length + 1) - 1) ⟨l.toArray⟩).length = (parts c n l).length := by rw [← hlen, List.length_map]
  have hle := Lib.splitB_length_le ⟨#[c]⟩ 0 (min (n + 1) (l.length + 1) - 1) ⟨l.toArray⟩
  have h := Tryd.strings_SplitN ⟨l.toArray⟩ ⟨#[c]⟩ (n + 1) m w (by rw [hsz]; omega) hm (Nat.le_refl _) (by omega) (by omega)
  rw [hsz, hlen2] at h
  rw [Int.natCast_add] at h
  refine h.mono ?_
  rintro e w' ⟨rfl, rfl⟩
  refine ⟨_, rfl, by omega, ?_, (Below.refl _ _).alloc (Nat.le_refl _) _⟩
  have hcs : (Lib.cellsOf (Lib.splitB ⟨#[c]⟩ 0 (min (n + 1) (l.length + 1) - 1) ⟨l.toArray⟩) (min (n + 1) (l.length + 1))) = (txts (parts c n l) ++ List.replicate (min (n + 1) (l.length + 1) - (parts c n l).length) (Value.string ByteArray.empty)).toArray := by
    unfold Lib.cellsOf txts
    rw [← hlen, List.map_map, List.length_map]
    congr 2
  rw [hcs]
  have h2 := rd_new w (txts (parts c n l) ++ List.replicate (min (n + 1) (l.length + 1) - (parts c n l).length) (Value.string ByteArray.empty)) 9 (0, 0)
  have h3 := h2.take (txts (parts c n l)).length
  rw [List.take_left] at h3
  exact h3.wide (Nat.le_refl _) (by simp)

theorem join_any (b cap : Nat) (xs : List (List UInt8)) (c : UInt8) (w : World) (h : Rd w b (b + 1) (some ⟨b, 0, none⟩) (txts xs)) (hb : b < w.heap.size) (hx : xs.length ≤ cap) (hs : ∀ x ∈ xs, x.length ≤ 1000) (hn : xs.length ≤ 1000) :
    Calls Tryd.prog 30 #[.slice (some ⟨b, 0, none⟩) xs.length cap, txt [c]] w fun e w' => e = .returned (txt (Lib.join xs [c])) ∧ Below w.heap.size w w' := by
  have he : (xs.map fun x => (⟨x.toArray⟩ : ByteArray)).map (·.data.toList) = xs := by
    rw [List.map_map]
    conv => rhs; rw [← List.map_id xs]
    exact List.map_congr_left fun x _ => rfl
  have hj := join_le c 1000
  have h1 := Tryd.strings_Join b 0 cap (xs.map fun x => (⟨x.toArray⟩ : ByteArray)) ⟨#[c]⟩ w (fun j x hjx => by
    rw [List.getElem?_map] at hjx
    cases hx2 : xs[j]? with
    | none => rw [hx2] at hjx; cases hjx
    | some y =>
      rw [hx2] at hjx
      cases hjx
      obtain ⟨ad, e, _, _, hc⟩ := h j (txt y) (by unfold txts; rw [List.getElem?_map, hx2]; rfl)
      cases e
      have e2 : ((⟨b, 0, none⟩ : Addr).add j) = ⟨b, 0 + j, none⟩ := by
        unfold Addr.add
        by_cases h0 : j = 0 <;> simp [h0]
      rw [← e2]
      exact hc) hb (by simp; omega) (by simpa using hx) (by rw [he]; have := hj xs hs; show (Lib.join xs [c]).length ≤ _; omega)
  rw [he] at h1
  simpa using h1
end Go.Proofs.YtbahkilfcfbolaaDoor
