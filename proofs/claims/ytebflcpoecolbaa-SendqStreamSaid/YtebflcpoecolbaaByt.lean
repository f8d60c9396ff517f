/-
  Rows of bytes that read as data: one's own, one that is read; as texts. No condition.
-/
import Derived.Test.YtebflcpoecolbaaFrs
namespace Go.Proofs.Ytebflcpoecolbaa
open Go.RowKit

theorem info_byte : (Try.prog.info? 5).map (fun i => (i.zero, i.size, i.bytes)) = some (some (.int .u8 0), 1, 1) := by kernel_rfl
theorem byte_parts : ∃ i0, Try.prog.info? 5 = some i0 ∧ i0.zero = some (.int .u8 0) ∧ i0.size = 1 ∧ i0.bytes = 1 := parts_of info_byte
theorem rv_lt {w : World} {S : Nat → Prop} {v : Value} {d : Dat} (h : Rv w S v d) : Rv w (fun b => S b ∧ b < w.heap.size) v d := (rvs_cons.1 (rvs_tight' (rvs_cons.2 ⟨h, rvs_nil⟩))).1
theorem byt_own {w : World} {base n c : Nat} {A : Option Addr} {l : List UInt8} (h : w.ownsRow base 5 1 (.slice A n c) n (cells l)) (hn : l.length = n) : Rv w (fun b => base ≤ b) (.slice A n c) (bytesD l) := by
  subst hn
  obtain ⟨A', c', e, h1, h2, h3⟩ := ownk_form h
  injection e with e1 _ e3
  subst e1 e3
  exact rv_bytes.2 ⟨A, c, rfl, RdS.of (ownk_rd h) (fun _ h _ => h), h3, h1, h2⟩
theorem byt_rd {w : World} {S : Nat → Prop} {B : Option Addr} {k e : Nat} {l : List UInt8} (h : Rv w S (.slice B k e) (bytesD l)) (hk : l.length = k) : Rd w 0 w.heap.size B (cells l) ∧ (B = none → e = 0) ∧ k ≤ e ∧ e ≤ maxLen := by
  subst hk
  obtain ⟨A', c', e1, h2, h3, h4, h5⟩ := rv_bytes.1 (rv_lt h)
  injection e1 with e1 _ e3
  subst e1 e3
  exact ⟨RdS.rd h2 (fun _ h => ⟨Nat.zero_le _, h.2⟩), h3, h4, h5⟩
theorem byt_text {w : World} {S : Nat → Prop} {v : Value} {l : List UInt8} (h : Rv w S v (bytesD l)) : ∀ w', Below w.heap.size w w' → (convert 26 9 v).run Try.prog w' = .ok (.string ⟨l.toArray⟩) w' := fun w' hb => by
  obtain ⟨A, c, rfl, h2, _⟩ := rv_bytes.1 ((rv_lt h).kept hb (fun _ h => h.2))
  exact run_text (P := Try.prog) w' 26 9 5 c Try.underlying26 Try.underlying5 Try.underlying9 (lo := 0) (hi := w.heap.size) (RdS.rd h2 (fun b h => ⟨Nat.zero_le _, h.2⟩))
theorem byt_nil {w : World} {S : Nat → Prop} : Rv w S (.slice none 0 0) (bytesD []) := rv_bytes.2 ⟨none, 0, rfl, by intro j u h; simp [cells] at h, fun _ => rfl, Nat.le_refl _, Nat.zero_le _⟩
theorem byt_take {w : World} {S : Nat → Prop} {B : Option Addr} {k e : Nat} {l : List UInt8} (h : Rv w S (.slice B k e) (bytesD l)) (q : Nat) (hq : q ≤ k) (hk : l.length = k) : Rv w S (.slice B q e) (bytesD (l.take q)) := by
  subst hk
  obtain ⟨A, c, e1, h2, h3, h4, h5⟩ := rv_bytes.1 h
  injection e1 with e1 _ e3
  subst e1 e3
  have hl : (l.take q).length = q := by rw [List.length_take]; omega
  refine rv_bytes.2 ⟨B, e, by rw [hl], fun j u hj => h2 j u ?_, h3, by rw [hl]; omega, h5⟩
  have hc : cells (l.take q) = (cells l).take q := by simp [cells]
  rw [hc, List.getElem?_take] at hj
  split at hj
  · exact hj
  · cases hj
theorem ty_ne {w : World} {a b : Nat} {C D : Array Value} {t u : TypeId} {fr fr2 : Nat × Nat} (ha : w.heap[a]? = some (.cells C t fr)) (hb : w.heap[b]? = some (.cells D u fr2)) (h : t ≠ u) : a ≠ b := fun e => by
  subst e
  rw [ha] at hb
  injection hb with hb
  injection hb with _ hb
  exact h hb
end Go.Proofs.Ytebflcpoecolbaa
