/-
  The state as the law SendqRight is handed it. No condition.
-/
import Derived.Test.YtebflcpoecolbaaSt
import Derived.Test.YtebflcpoecolbaaDat
namespace Go.Proofs.Ytebflcpoecolbaa
open Go.RowKit

/-- the state as it is handed in: its number of what is sent may be any -/
structure Sd where
  una : Int
  data : List UInt8
  sent : Int
  fin : Bool
  fsent : Bool
  facked : Bool
theorem u32_of {a : Int} (h : (Lit.int .u32 a).wf = true) : U32 a := by
  simp [Lit.wf, IntKind.min, IntKind.max, IntKind.signed, IntKind.bits] at h
  unfold U32
  omega
abbrev ShSend : Sh := .cat (.num .u32) (.cat (.sl (.num .u8)) (.cat (.num .i64) (.cat .bit (.cat .bit (.cat .bit .non)))))
def sendD (q : Sd) : List Dat := [.val (.int .u32 q.una), bytesD q.data, .val (.int .i64 q.sent), .val (.bool q.fin), .val (.bool q.fsent), .val (.bool q.facked)]
theorem dec_send : Dec ShSend sendD fun q => I64 q.sent ∧ q.data.length ≤ 140737488351232 :=
  dec_map (dec_cat (dec_num .u32) (dec_cat dec_bytes (dec_cat (dec_num .i64) (dec_cat dec_bit (dec_cat dec_bit (dec_cat dec_bit dec_non)))))) (fun x => ⟨x.1, x.2.1, x.2.2.1, x.2.2.2.1, x.2.2.2.2.1, x.2.2.2.2.2.1⟩) (fun _ _ => rfl) (fun _ h => ⟨i64_of h.2.2.1, h.2.1⟩)
theorem send_of {w : World} {cs : List Value} (h : ShSend.ok w cs) : ∃ (q : Sd) (A : Option Addr) (c : Nat), cs = [.int .u32 q.una, .slice A q.data.length c, .int .i64 q.sent, .bool q.fin, .bool q.fsent, .bool q.facked] ∧ Rv w (Lt w.heap.size) (.slice A q.data.length c) (bytesD q.data) ∧ I64 q.sent ∧ q.data.length ≤ 140737488351232 := by
  obtain ⟨q, hr, h1, h2⟩ := dec_send w cs h
  obtain ⟨u0, u1, u2, u3, u4, u5, rfl⟩ : ∃ u0 u1 u2 u3 u4 u5, cs = [u0, u1, u2, u3, u4, u5] := by
    have := hr.1
    rcases cs with _ | ⟨u0, _ | ⟨u1, _ | ⟨u2, _ | ⟨u3, _ | ⟨u4, _ | ⟨u5, _ | ⟨u6, l⟩⟩⟩⟩⟩⟩⟩ <;> simp [sendD] at this
    exact ⟨u0, u1, u2, u3, u4, u5, rfl⟩
  obtain ⟨g0, hr⟩ := rvs_cons.1 hr
  obtain ⟨g1, hr⟩ := rvs_cons.1 hr
  obtain ⟨g2, hr⟩ := rvs_cons.1 hr
  obtain ⟨g3, hr⟩ := rvs_cons.1 hr
  obtain ⟨g4, hr⟩ := rvs_cons.1 hr
  obtain ⟨g5, -⟩ := rvs_cons.1 hr
  obtain ⟨A, c, rfl, -⟩ := rv_bytes.1 g1
  exact ⟨q, A, c, by rw [(rv_val.1 g0).1, (rv_val.1 g2).1, (rv_val.1 g3).1, (rv_val.1 g4).1, (rv_val.1 g5).1], g1, h1, h2⟩
end Go.Proofs.Ytebflcpoecolbaa
