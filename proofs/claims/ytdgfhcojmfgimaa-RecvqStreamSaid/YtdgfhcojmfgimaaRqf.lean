/-
  How states of layer 17 lie in variables: their cells; bytes as texts, bytes of literals. No condition.
-/
import Derived.Test.YtdgfhcojmfgimaaRqo
import Derived.Lib.SlBytesConst
namespace Go.Proofs.Ytdgfhcojmfgimaa
open Go.RowKit

theorem info_u8 : (Try.prog.info? 5).map (fun i => (i.zero, i.size, i.bytes)) = some (some (.int .u8 0), 1, 1) := by kernel_rfl
def rqC (q : Rq) (vD vA : Value) : Array Value := #[.int .u32 q.next, vD, vA, .bool q.known, .int .u32 q.fin, .bool q.done]
def rxC (x : Rx) (v : Value) : Array Value := #[.int .u32 x.next, txtV x.data, v, .int .i64 x.fin, .bool x.done]
theorem rq_of {w : World} {S : Nat → Prop} {ds : Array Value} {q : Rq} (h : Rvs w S ds.toList (rqD q)) : ∃ vD vA, ds = rqC q vD vA ∧ (rqC q vD vA).all (·.oneCell') = true := by
  obtain ⟨vD, vA, rfl, h1, h2⟩ := rq_form h
  exact ⟨vD, vA, rfl, Array.all_eq_true_iff_forall_mem.2 fun u hu => by
    simp only [rqC, List.mem_toArray, List.mem_cons, List.not_mem_nil, or_false] at hu
    rcases hu with rfl | rfl | rfl | rfl | rfl | rfl
    · rfl
    · exact h1.one
    · exact h2.one
    · rfl
    · rfl
    · rfl⟩
theorem u32_of {z : Int} (h : (Lit.int .u32 z).wf = true) : U32 z := by
  simp [Lit.wf, IntKind.min, IntKind.max, IntKind.signed, IntKind.bits] at h
  unfold U32
  omega
/-- bytes, as a law is handed them -/
theorem bytes17 {w : World} {A : Option Addr} {len cap : Nat} (h : (Sh.sl (.num .u8)).ok w [.slice A len cap]) : ∃ l : List UInt8, Rv w (Lt w.heap.size) (.slice A len cap) (bytesD l) ∧ l.length = len ∧ len ≤ 140737488351232 := by
  obtain ⟨l, hr, hl⟩ := dec_bytes w _ h
  have hr := (rvs_cons.1 hr).1
  obtain ⟨A', c', e, -⟩ := rv_bytes.1 hr
  injection e with _ e _
  exact ⟨l, hr, e.symm, by omega⟩
theorem ops17 {w : World} {A : Option Addr} {len cap : Nat} (h : (Sh.sl Sh17).ok w [.slice A len cap]) : ∃ l : List Op17, Rv w (Lt w.heap.size) (.slice A len cap) (rowsD 4 op17D l) ∧ (∀ o ∈ l, ok17 o) ∧ l.length ≤ 140737488351232 := by
  obtain ⟨v, l, e, hr, hO, hl⟩ := ops17_of h
  injection e with e _
  subst e
  exact ⟨l, hr, hO, hl⟩
theorem op17_of {w : World} {cs : List Value} (h : Sh17.ok w cs) : ∃ (o : Op17) (B : Option Addr) (e : Nat), cs = [.int .i64 o.off, .slice B o.data.length e, .bool o.fin, .int .i64 o.read] ∧ Rv w (Lt w.heap.size) (.slice B o.data.length e) (bytesD o.data) := by
  obtain ⟨o, hr, -⟩ := dec_op17 w cs h
  obtain ⟨B, e, h1, h2⟩ := op_form hr
  exact ⟨o, B, e, h1, h2⟩
theorem ne_type {w : World} {a b : Nat} {C D : Array Value} {t u : TypeId} {fr fr2 : Nat × Nat} (ha : w.heap[a]? = some (.cells C t fr)) (hb : w.heap[b]? = some (.cells D u fr2)) (h : t ≠ u) : a ≠ b := fun e => by
  subst e
  rw [ha] at hb
  injection hb with hb
  injection hb with _ hb
  exact h hb
theorem rq_ones {w : World} {S : Nat → Prop} {q : Rq} {vD vA : Value} (h : Rvs w S (rqC q vD vA).toList (rqD q)) : (rqC q vD vA).all (·.oneCell') = true :=
  Array.all_eq_true_iff_forall_mem.2 fun u hu => h.ones u (by simpa using hu)
theorem rq_data {w : World} {S : Nat → Prop} {q : Rq} {vD vA : Value} (h : Rvs w S (rqC q vD vA).toList (rqD q)) : Rv w S vD (bytesD q.data) := by
  obtain ⟨vD', vA', e, h1, h2⟩ := rq_form h
  injection e with e
  injection e with _ e
  injection e with e1 _
  rw [e1]
  exact h1
theorem rq_ahead {w : World} {S : Nat → Prop} {q : Rq} {vD vA : Value} (h : Rvs w S (rqC q vD vA).toList (rqD q)) : Rv w S vA (rowsD 2 pcD q.ahead) := by
  obtain ⟨vD', vA', e, h1, h2⟩ := rq_form h
  injection e with e
  injection e with _ e
  injection e with _ e
  injection e with e1 _
  rw [e1]
  exact h2
theorem rx_of {w : World} {S : Nat → Prop} {cs : Array Value} {x : Rx} (h : Rvs w S cs.toList (rxD x)) : ∃ v, cs = rxC x v ∧ (rxC x v).all (·.oneCell') = true := by
  obtain ⟨A, c, rfl, _⟩ := rx_form h
  exact ⟨_, rfl, by simp [rxC, txtV, Value.oneCell']⟩
theorem rx_ones {w : World} {S : Nat → Prop} {x : Rx} {v : Value} (h : Rvs w S (rxC x v).toList (rxD x)) : (rxC x v).all (·.oneCell') = true :=
  Array.all_eq_true_iff_forall_mem.2 fun u hu => h.ones u (by simpa using hu)
theorem rq_cells {w : World} {b : Nat} {q : Rq} {vD vA : Value} {t : TypeId} {fr : Nat × Nat} (h : w.heap[b]? = some (.cells (rqC q vD vA) t fr)) :
    w.cell? ⟨b, 0, none⟩ = some (.int .u32 q.next) ∧ w.cell? ⟨b, 1, none⟩ = some vD ∧ w.cell? ⟨b, 2, none⟩ = some vA ∧ w.cell? ⟨b, 3, none⟩ = some (.bool q.known) ∧ w.cell? ⟨b, 4, none⟩ = some (.int .u32 q.fin) ∧ w.cell? ⟨b, 5, none⟩ = some (.bool q.done) := six_cells' h
theorem rx_cells {w : World} {b : Nat} {x : Rx} {v : Value} {t : TypeId} {fr : Nat × Nat} (h : w.heap[b]? = some (.cells (rxC x v) t fr)) :
    w.cell? ⟨b, 0, none⟩ = some (.int .u32 x.next) ∧ w.cell? ⟨b, 1, none⟩ = some (txtV x.data) ∧ w.cell? ⟨b, 2, none⟩ = some v ∧ w.cell? ⟨b, 3, none⟩ = some (.int .i64 x.fin) ∧ w.cell? ⟨b, 4, none⟩ = some (.bool x.done) := five_cells h
theorem conv_bytes {w : World} {S : Nat → Prop} {v : Value} {l : List UInt8} (h : Rv w S v (bytesD l)) : ∀ w', Below w.heap.size w w' → (convert 26 9 v).run Try.prog w' = .ok (.string ⟨l.toArray⟩) w' := fun w' hb => by
  obtain ⟨A, c, rfl, h2, _⟩ := rv_bytes.1 ((rv_tight h).kept hb (fun _ h => h.2))
  exact run_text (P := Try.prog) w' 26 9 5 c Try.underlying26 Try.underlying5 Try.underlying9 (lo := 0) (hi := w.heap.size) (RdS.rd h2 (fun b h => ⟨Nat.zero_le _, h.2⟩))
theorem conv_same (w : World) (C : Array Value) (n c : Nat) : (convert 26 26 (.slice (some ⟨w.heap.size, 0, none⟩) n c)).run Try.prog (w.alloc (.cells C 5)) = .ok (.slice (some ⟨w.heap.size, 0, none⟩) n c) (w.alloc (.cells C 5 (C.size, C.size + 1))) :=
  Lib.run_convert_bytes_const (P := Try.prog) w 26 5 C n c Try.underlying26 Try.underlying5
theorem lit_bytes {w : World} {g : Nat} {l : List UInt8} {t : TypeId} {fr : Nat × Nat} (h : w.heap[g]? = some (.cells (cells l).toArray t fr)) (hl : l.length ≤ maxLen) : Rv w (fun b => b = g) (.slice (some ⟨g, 0, none⟩) l.length l.length) (bytesD l) :=
  rv_bytes.2 ⟨_, _, rfl, fun j u hj => ⟨_, rfl, rfl, by
    rw [Addr.add_mid, Nat.zero_add, cell_of_row _ _ _ _ _ _ h]
    simpa using hj⟩, (fun h => by cases h), Nat.le_refl _, hl⟩
theorem own_bytes {w : World} {base n c : Nat} {A : Option Addr} {l : List UInt8} (h : w.ownsRow base 5 1 (.slice A n c) n (cells l)) (hn : l.length = n) : Rv w (fun _ => True) (.slice A n c) (bytesD l) := by
  subst hn
  obtain ⟨A', c', e, h1, h2, h3⟩ := ownk_form h
  injection e with e1 _ e3
  subst e1 e3
  exact rv_bytes.2 ⟨A, c, rfl, RdS.of (ownk_rd h) (fun _ _ _ => trivial), h3, h1, h2⟩
theorem rd_bytes {w : World} {S : Nat → Prop} {B : Option Addr} {k e : Nat} {l : List UInt8} (h : Rv w S (.slice B k e) (bytesD l)) (hk : l.length = k) : Rd w 0 w.heap.size B (cells l) ∧ (B = none → e = 0) ∧ k ≤ e ∧ e ≤ maxLen := by
  subst hk
  obtain ⟨A', c', e1, h2, h3, h4, h5⟩ := rv_bytes.1 (rv_tight h)
  injection e1 with e1 _ e3
  subst e1 e3
  exact ⟨RdS.rd h2 (fun _ h => ⟨Nat.zero_le _, h.2⟩), h3, h4, h5⟩
theorem nil_bytes {w : World} {S : Nat → Prop} : Rv w S (.slice none 0 0) (bytesD []) := rv_bytes.2 ⟨none, 0, rfl, by intro j u h; simp [cells] at h, fun _ => rfl, Nat.le_refl _, Nat.zero_le _⟩
/-- a state that a call handed back -/
def ClP (q : Rq) : Pred := fun v w => ∃ ds : Array Value, v = .agg ds ∧ Rvs w (fun _ => True) ds.toList (rqD q)
theorem clp_mono (q : Rq) : Mono (ClP q) := fun _ _ _ hb ⟨ds, e, h⟩ => ⟨ds, e, rvs_call h hb⟩
end Go.Proofs.Ytdgfhcojmfgimaa
