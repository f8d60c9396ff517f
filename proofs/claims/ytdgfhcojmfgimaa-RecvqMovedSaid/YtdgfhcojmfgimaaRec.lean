/-
  What the calls of recvq answer, by the document's state. Every state that may be, every piece of at most 1000 bytes.
-/
import Derived.Test.YtdgfhcojmfgimaaRdq
import Derived.Test.YtdgfhcojmfgimaaRdr
import Derived.Test.YtdgfhcojmfgimaaRdh
import Derived.Test.YtdgfhcojmfgimaaRdi
namespace Go.Proofs.Ytdgfhcojmfgimaa
open Go.RowKit

theorem conc_sizes {x : Rx} (hx : OkX x) : (conc x).data.length ≤ 256 ∧ (conc x).ahead.length ≤ 1000 ∧ ∀ t ∈ (conc x).ahead, t.data.length ≤ 1000 := by
  refine ⟨hx.data, ?_, fun t ht => ?_⟩
  · have := runs_len hx
    show ((runsL 0 x.got).map (mkP x.next)).length ≤ 1000
    rw [List.length_map]
    omega
  · obtain ⟨p, hp, rfl⟩ := List.mem_map.1 (show t ∈ (runsL 0 x.got).map (mkP x.next) from ht)
    have := run_end (runs_g (got_le hx)) hp
    rw [hx.got] at this
    show p.2.length ≤ 1000
    omega
theorem new_any (n : Int) (w : World) (_hn : U32 n) : Calls Try.prog 10 #[.int .u32 n] w fun e w' => ∃ cs : Array Value, e = .returned (.agg cs) ∧ Rvs w' (fun b => w.heap.size ≤ b) cs.toList (rqD (conc (newX n))) ∧ Below w.heap.size w w' := by
  have he : conc (newX n) = ⟨n, [], [], false, 0, false⟩ := by
    unfold conc newX
    rw [runs_none _ _ fun c hc => by rw [List.eq_of_mem_replicate hc]; decide]
    rfl
  rw [he]
  refine (new17 n w).mono ?_
  rintro e w' ⟨rfl, hb⟩
  exact ⟨_, rfl, rq_make nil_bytes ((pcs_nil (lo := w.heap.size)).rv), hb⟩
theorem clone_any (x : Rx) (cs : Array Value) (S : Nat → Prop) (w : World) (hr : Rvs w S cs.toList (rqD (conc x))) (hx : OkX x) : Calls Try.prog 21 #[.agg cs] w fun e w' => ∃ cs' : Array Value, e = .returned (.agg cs') ∧ Rvs w' (fun b => S b ∨ w.heap.size ≤ b) cs'.toList (rqD (conc x)) ∧ Below w.heap.size w w' := by
  obtain ⟨h1, h2, h3⟩ := conc_sizes hx
  refine (qclone_any (conc x) cs S w hr (by omega) h2 h3).mono ?_
  rintro e w' ⟨cs', lo2, rfl, hq, hl, -, hb⟩
  exact ⟨cs', rfl, (hq.rv hl).wide fun b hb => .inr hb, hb⟩
theorem window_any (x : Rx) (cs : Array Value) (S : Nat → Prop) (w : World) (hr : Rvs w S cs.toList (rqD (conc x))) (hx : OkX x) : Calls Try.prog 18 #[.agg cs] w fun e w' => e = .returned (.int .i64 (winX x)) ∧ Below w.heap.size w w' := by
  obtain ⟨vD, vA, rfl, -⟩ := rq_of hr
  have := (conc_sizes hx).1
  exact win17 (conc x) vD vA S w (rq_data hr) (by omega)
theorem accept_any (x : Rx) (cs : Array Value) (S S2 : Nat → Prop) (a : Int) (v : Value) (D : List UInt8) (e : Bool) (w : World) (hr : Rvs w S cs.toList (rqD (conc x))) (hx : OkX x) (_ha : U32 a) (hv : Rv w S2 v (bytesD D)) (hD : D.length ≤ 1000) : Calls Try.prog 14 #[.agg cs, .int .u32 a, v, .bool e] w fun en w' => ∃ cs' : Array Value, en = .returned (.agg cs') ∧ Rvs w' (fun b => S b ∨ w.heap.size ≤ b) cs'.toList (rqD (conc (acceptX x a D e))) ∧ Below w.heap.size w w' := by
  obtain ⟨h1, h2, h3⟩ := conc_sizes hx
  obtain ⟨vD, vA, rfl, -⟩ := rq_of hr
  cases hd : x.done
  · obtain ⟨q1, hq1⟩ : ∃ q1, knowQ (conc x) e (addS a D.length) = q1 := ⟨_, rfl⟩
    obtain ⟨p, hp⟩ : ∃ p, wantQ q1 a D = p := ⟨_, rfl⟩
    obtain ⟨a1, a2, a3, a4, a5⟩ := accept_conc hx hd D hD e hq1 hp
    rw [← a1]
    rw [a3] at a5
    exact accept_q (conc x) vD vA S S2 a v D e w q1 p hr hv hD hd (by omega) h2 h3 hq1 hp (by omega) a5
  · have he : acceptX x a D e = x := by unfold acceptX; rw [if_pos hd]
    rw [he]
    exact accept_d (conc x) vD vA S a v e w hr hd (by omega) h2 h3
theorem read_any (x : Rx) (cs : Array Value) (S : Nat → Prop) (z : Int) (w : World) (hr : Rvs w S cs.toList (rqD (conc x))) (hx : OkX x) (hz : I64 z) : Calls Try.prog 12 #[.agg cs, .int .i64 z] w fun en w' => ∃ (cs' : Array Value) (v : Value), en = .returned (.tuple #[.agg cs', v]) ∧ Rvs w' (fun b => S b ∨ w.heap.size ≤ b) cs'.toList (rqD (conc (readX x z))) ∧ Rv w' (fun b => S b ∨ w.heap.size ≤ b) v (bytesD (x.data.take (cutX x z))) ∧ Below w.heap.size w w' := by
  obtain ⟨h1, h2, h3⟩ := conc_sizes hx
  obtain ⟨vD, vA, rfl, -⟩ := rq_of hr
  refine (read17 (conc x) vD vA S z w hr (by omega) h2 h3 hz).mono ?_
  rintro e w' ⟨cs', v, rfl, hq, hv, hb⟩
  exact ⟨cs', v, rfl, hq.wide fun b hb => .inr hb, hv.wide fun b hb => .inr hb, hb⟩
theorem ended_any (x : Rx) (cs : Array Value) (S : Nat → Prop) (w : World) (hr : Rvs w S cs.toList (rqD (conc x))) (hx : OkX x) : Calls Try.prog 20 #[.agg cs] w fun e w' => e = .returned (.bool (x.done && x.data.isEmpty)) ∧ Below w.heap.size w w' := by
  obtain ⟨vD, vA, rfl, -⟩ := rq_of hr
  have := (conc_sizes hx).1
  exact end17 (conc x) vD vA S w (rq_data hr) (by omega)
theorem right_any (x : Rx) (cs : Array Value) (S : Nat → Prop) (w : World) (hr : Rvs w S cs.toList (rqD (conc x))) (hx : OkX x) : Calls Try.prog 17 #[.agg cs] w fun e w' => e = .returned (.bool true) ∧ Below w.heap.size w w' := right17 x cs S w hr hx
end Go.Proofs.Ytdgfhcojmfgimaa
