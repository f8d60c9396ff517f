/-
  What sendq's functions answer, by the document's state. Every state that may be.
-/
import Derived.Test.YtebflcpoecolbaaScr
import Derived.Test.YtebflcpoecolbaaScg
namespace Go.Proofs.Ytebflcpoecolbaa
open Go.RowKit

section
variable {x : Sx}
theorem conc_len (x : Sx) : (concS x).data.length = x.all.length - fromS x := by
  show (x.all.drop (fromS x)).length = _
  rw [List.length_drop]
theorem conc_sent (x : Sx) : (concS x).sent = x.sent - fromS x := rfl
theorem conc_sizes18 (h : OkS x) : (concS x).data.length ≤ 256 ∧ (concS x).sent ≤ (concS x).data.length := by
  rw [conc_len, conc_sent]
  have := h.room
  have := h.sent
  omega
theorem from_of (h : x.acked ≤ x.all.length) : fromS x = x.acked := Nat.min_eq_left h
theorem end_sent (h : OkS x) (hl : x.all.length < x.acked) : x.fsent = true ∧ x.fin = true ∧ x.sent = x.all.length ∧ x.acked = x.all.length + 1 ∧ fromS x = x.all.length := by
  have h1 := h.acked
  have h2 := h.sent
  cases hf : x.fsent
  · rw [hf, if_neg (by decide)] at h1
    omega
  · have h3 := h.fsent hf
    rw [hf, if_pos rfl] at h1
    exact ⟨rfl, h3.1, h3.2, by omega, by unfold fromS; omega⟩
theorem room_conc (x : Sx) (h : OkS x) : (if (concS x).fin = true then (0 : Int) else 256 - ((concS x).data.length : Int)) = (roomS x : Int) := by
  have := h.room
  rw [conc_len]
  show (if x.fin = true then (0 : Int) else _) = _
  unfold roomS
  split <;> omega
theorem write_conc (h : OkS x) (s : List UInt8) : writeQ (concS x) s = writeN x s ∧ concS (writeS x s) = { concS x with data := (concS x).data ++ s.take (writeN x s) } := by
  have e1 : writeQ (concS x) s = writeN x s := by
    unfold writeQ writeN roomS
    rw [conc_len]
    rfl
  refine ⟨e1, ?_⟩
  have hn : writeN x s ≤ s.length := Nat.min_le_left ..
  have hl : (writeS x s).all.length = x.all.length + writeN x s := by
    show (x.all ++ s.take (writeN x s)).length = _
    rw [List.length_append, List.length_take]
    omega
  have hr : writeN x s ≤ roomS x := Nat.min_le_right ..
  have hz : x.all.length < x.acked → writeN x s = 0 := fun hlt => by
    have := (end_sent h hlt).2.1
    unfold roomS at hr
    rw [if_pos this] at hr
    omega
  have hf : fromS (writeS x s) = fromS x := by
    have : fromS (writeS x s) = min x.acked (writeS x s).all.length := rfl
    rw [this, hl]
    unfold fromS
    by_cases hlt : x.all.length < x.acked
    · have := hz hlt
      omega
    · omega
  have hfl := h.from_le
  have hs := h.sent
  have e2 : (writeS x s).all.drop (fromS x) = x.all.drop (fromS x) ++ s.take (writeN x s) := by
    show (x.all ++ s.take (writeN x s)).drop (fromS x) = _
    exact List.drop_append_of_le_length (by omega)
  have e3 : decide ((writeS x s).all.length < x.acked) = decide (x.all.length < x.acked) := by
    rw [hl]
    by_cases hlt : x.all.length < x.acked
    · rw [hz hlt, Nat.add_zero]
    · rw [decide_eq_false hlt, decide_eq_false (by omega)]
  show Sq.mk _ ((writeS x s).all.drop (fromS (writeS x s))) (x.sent - fromS (writeS x s)) x.fin x.fsent (decide ((writeS x s).all.length < x.acked)) = _
  rw [hf, e2, e3]
  rfl
theorem next_conc (h : OkS x) (u m : Int) : nextQN (concS x) u m = nextN x u m ∧ nextQE (concS x) u m = nextE x u m ∧ nextQO (concS x) u m = nextO x u m ∧ nextQ (concS x) u m = concS (nextS x u m) ∧ (nextQ (concS x) u m).data = (concS x).data ∧ nextQP (concS x) u m = nextP x u m := by
  have hfl := h.from_le
  have hs := h.sent
  have e1 : nextQN (concS x) u m = nextN x u m := by
    unfold nextQN nextN
    have hfa := h.from_again
    unfold againF at hfa
    rw [conc_len, conc_sent, hfa]
    omega
  have hnl : nextN x u m ≤ x.all.length - x.sent := Nat.min_le_left ..
  have e2 : nextQE (concS x) u m = nextE x u m := by
    unfold nextQE nextE
    rw [e1, conc_len, conc_sent]
    show (x.fin && !x.fsent && decide (x.sent - fromS x + nextN x u m = x.all.length - fromS x)) = _
    congr 1
    exact decide_eq_decide.2 ⟨fun h => by omega, fun h => by omega⟩
  have e3 : nextQO (concS x) u m = nextO x u m := by
    unfold nextQO nextO
    rw [e1, e2]
  have e4 : nextQ (concS x) u m = concS (nextS x u m) := by
    unfold nextQ
    rw [e1, e2, e3]
    have hz : x.sent + nextN x u m - fromS x = x.sent - fromS x + nextN x u m := by omega
    split
    · show Sq.mk _ _ (x.sent - fromS x + nextN x u m) _ _ _ = Sq.mk _ _ (x.sent + nextN x u m - fromS x) _ _ _
      rw [hz]
      rfl
    · rename_i ho
      have ho : nextO x u m = false := by simpa using ho
      have hE := next_noE ho
      have hN : nextN x u m = 0 := by
        unfold nextO at ho
        have := (Bool.or_eq_false_iff.1 ho).1
        simpa using this
      have : nextS x u m = x := by
        unfold nextS
        rw [hE, hN, Bool.or_false]
        rfl
      rw [this]
  refine ⟨e1, e2, e3, e4, ?_, ?_⟩
  · unfold nextQ
    split <;> rfl
  · unfold nextQP nextP
    rw [e1, e3]
    split
    · rename_i ho
      have hle : x.acked ≤ x.all.length := by
        refine Nat.le_of_not_lt fun hlt => ?_
        obtain ⟨h1, -, h3, -, -⟩ := end_sent h hlt
        have hN : nextN x u m = 0 := by omega
        have hE : nextE x u m = false := by
          unfold nextE
          rw [h1, Bool.not_true, Bool.and_false, Bool.false_and]
        unfold nextO at ho
        rw [hN, hE] at ho
        cases ho
      have hf := from_of hle
      have ea : addS (concS x).una ((concS x).sent : Int) = addS x.first (x.sent : Nat) := by
        show addS (addS x.first x.acked) ((x.sent - fromS x : Nat) : Int) = _
        rw [hf] at hfl ⊢
        unfold addS
        omega
      have eb : ((concS x).data.drop (concS x).sent).take (nextN x u m) = nextB x u m := by
        show ((x.all.drop (fromS x)).drop (x.sent - fromS x)).take _ = _
        rw [List.drop_drop, show fromS x + (x.sent - fromS x) = x.sent by omega]
        rfl
      rw [ea, eb]
    · rfl
theorem again_conc (h : OkS x) (m : Int) : againQE (concS x) m = againE x m ∧ againQO (concS x) m = againO x m ∧ againQP (concS x) m = againP x m := by
  have hfl := h.from_le
  have hs := h.sent
  have hfa := h.from_again
  have e1 : againT x m = fromS x + againQN (concS x) m := by
    unfold againT againQN
    rw [hfa, conc_sent]
  have hN : againQN (concS x) m ≤ x.sent - fromS x := by
    unfold againQN
    rw [conc_sent]
    omega
  have e2 : againQE (concS x) m = againE x m := by
    unfold againQE againE
    rw [e1, conc_len]
    show (x.fsent && !(decide (x.all.length < x.acked)) && _) = _
    congr 1
    · congr 1
      by_cases hlt : x.all.length < x.acked
      · rw [decide_eq_true hlt, decide_eq_false (by omega)]
        rfl
      · rw [decide_eq_false hlt, decide_eq_true (by omega)]
        rfl
    · exact decide_eq_decide.2 ⟨fun h => by omega, fun h => by omega⟩
  have e3 : againQO (concS x) m = againO x m := by
    unfold againQO againO
    rw [e2, e1, hfa]
    congr 1
    exact decide_eq_decide.2 ⟨fun h => by omega, fun h => by omega⟩
  refine ⟨e2, e3, ?_⟩
  unfold againQP againP
  rw [e3]
  split
  · rename_i ho
    have hle : x.acked ≤ x.all.length := by
      refine Nat.le_of_not_lt fun hlt => ?_
      obtain ⟨h1, -, h3, -, h5⟩ := end_sent h hlt
      have hE : againE x m = false := by
        unfold againE
        rw [decide_eq_false (show ¬ x.acked ≤ x.all.length by omega), Bool.and_false, Bool.false_and]
      unfold againO at ho
      rw [hE, e1, hfa, Bool.or_false] at ho
      have := of_decide_eq_true ho
      omega
    have hf := from_of hle
    have ea : (concS x).una = addS x.first (againF x : Nat) := by
      rw [hfa, hf]
      rfl
    have eb : (concS x).data.take (againQN (concS x) m) = againB x m := by
      unfold againB
      rw [e1, hfa, Nat.add_sub_cancel_left]
      rfl
    rw [ea, eb]
  · rfl
theorem flight_conc (h : OkS x) : flQ (concS x) = flightS x := by
  have hfl := h.from_le
  have hs := h.sent
  have ha := h.acked
  unfold flQ flightS
  show (if (x.fsent && !(decide (x.all.length < x.acked))) = true then x.sent - fromS x + 1 else x.sent - fromS x) = _
  by_cases hlt : x.all.length < x.acked
  · obtain ⟨h1, -, h3, h4, h5⟩ := end_sent h hlt
    rw [decide_eq_true hlt, h1, if_neg (by decide), if_pos rfl]
    omega
  · have hf := from_of (Nat.le_of_not_lt hlt)
    rw [decide_eq_false hlt, hf]
    rw [hf] at hfl
    cases x.fsent
    · rfl
    · rw [if_pos (show (true && !false) = true from rfl), if_pos rfl]
      omega
theorem ack_conc (h : OkS x) {a : Int} (hu : U32 a) : ackQ (concS x) a = concS (ackS x a) ∧ ackQN (concS x) a = ackN x a ∧ ackQE (concS x) a = ackE x a := by
  have hfl := h.from_le
  have hs := h.sent
  have hak := h.acked
  have hd : diffS a (concS x).una = ackD x a := rfl
  have hO : (ackO x a = true) ↔ (0 < ackD x a ∧ ackD x a ≤ (flightS x : Int)) := by
    unfold ackO
    rw [Bool.and_eq_true, decide_eq_true_iff, decide_eq_true_iff]
  refine ⟨?_, ?_, ?_⟩
  · unfold ackQ ackS
    rw [hd, flight_conc h]
    by_cases ho : 0 < ackD x a ∧ ackD x a ≤ (flightS x : Int)
    · rw [if_pos ho, if_pos (hO.2 ho)]
      have hle : x.acked ≤ x.all.length := by
        refine Nat.le_of_not_lt fun hlt => ?_
        obtain ⟨h1, -, h3, h4, -⟩ := end_sent h hlt
        have : flightS x = 0 := by
          unfold flightS
          rw [h1, if_pos rfl]
          omega
        omega
      have hf := from_of hle
      rw [hf] at hfl
      have hfs : x.acked + flightS x = if x.fsent = true then x.sent + 1 else x.sent := flight_le h
      obtain ⟨d, hdd⟩ : ∃ d : Nat, ackD x a = d := Int.eq_ofNat_of_zero_le (by omega)
      rw [hdd] at ho ⊢
      have hd2 : d ≤ flightS x := by omega
      have hd1 : x.fsent = false → x.acked + d ≤ x.sent := fun hf => by
        rw [hf, if_neg (by decide)] at hfs
        omega
      have hd3 : x.fsent = true → x.sent = x.all.length ∧ x.acked + d ≤ x.sent + 1 := fun hf => by
        have := (h.fsent hf).2
        rw [hf, if_pos rfl] at hfs
        omega
      have hd4 : x.acked + d ≤ x.sent ∨ (x.sent = x.all.length ∧ x.acked + d = x.sent + 1) := by
        cases hf : x.fsent
        · exact .inl (hd1 hf)
        · have := hd3 hf
          omega
      have ea : a = addS x.first ((x.acked + d : Nat) : Int) := by
        have h1 := h.first
        unfold ackD diffS addS at hdd
        unfold addS
        obtain ⟨u1, u2⟩ := hu
        obtain ⟨u3, u4⟩ := h1
        omega
      have et : ((d : Nat) : Int).toNat = d := Int.toNat_natCast d
      rw [et]
      have ef : fromS { x with acked := x.acked + d } = x.acked + min d (x.sent - x.acked) := by
        show min (x.acked + d) x.all.length = _
        omega
      show Sq.mk a ((x.all.drop (fromS x)).drop (min d (x.sent - fromS x))) (x.sent - fromS x - min d (x.sent - fromS x)) x.fin x.fsent (decide (x.all.length < x.acked) || decide (((x.sent - fromS x : Nat) : Int) < (d : Int))) = Sq.mk (addS x.first ((x.acked + d : Nat) : Int)) (x.all.drop (fromS { x with acked := x.acked + d })) (x.sent - fromS { x with acked := x.acked + d }) x.fin x.fsent (decide (x.all.length < x.acked + d))
      rw [hf, ef, ← ea, List.drop_drop, Nat.sub_sub, decide_eq_false (Nat.not_lt.2 hle), Bool.false_or]
      congr 1
      exact decide_eq_decide.2 ⟨fun h => by omega, fun h => by omega⟩
    · rw [if_neg ho, if_neg (fun h => ho (hO.1 h))]
  · unfold ackQN ackN
    rw [hd, flight_conc h]
    by_cases ho : 0 < ackD x a ∧ ackD x a ≤ (flightS x : Int)
    · rw [if_pos ho, if_pos (hO.2 ho)]
    · rw [if_neg ho, if_neg (fun h => ho (hO.1 h))]
  · unfold ackQE ackE
    rw [hd, flight_conc h]
theorem empty_conc (x : Sx) : ((concS x).data.isEmpty && (!(concS x).fin || (concS x).facked)) = emptyS x := by
  unfold emptyS
  show (_ && (!x.fin || decide (x.all.length < x.acked))) = _
  congr 1
  have e : (concS x).data.isEmpty = decide ((concS x).data.length = 0) := by cases (concS x).data <;> simp
  rw [e, conc_len]
  unfold fromS
  exact decide_eq_decide.2 ⟨fun h => by omega, fun h => by omega⟩
end

theorem new18_any (n : Int) (w : World) (hn : U32 n) : Calls Try.prog 10 #[.int .u32 n] w fun e w' => ∃ cs : Array Value, e = .returned (.agg cs) ∧ Rvs w' (fun b => w.heap.size ≤ b) cs.toList (sqD (concS (newS n))) ∧ Below w.heap.size w w' := by
  have he : concS (newS n) = ⟨n, [], 0, false, false, false⟩ := by
    have : addS n ((0 : Nat) : Int) = n := by
      obtain ⟨h1, h2⟩ := hn
      unfold addS
      omega
    show Sq.mk (addS n ((0 : Nat) : Int)) _ _ _ _ _ = _
    rw [this]
    rfl
  rw [he]
  refine (new18 n w).mono ?_
  rintro e w' ⟨rfl, hb⟩
  exact ⟨_, rfl, sqc_rvs byt_nil, hb⟩
theorem clone18_any (x : Sx) (cs : Array Value) (S : Nat → Prop) (w : World) (hr : Rvs w S cs.toList (sqD (concS x))) (hx : OkS x) : Calls Try.prog 19 #[.agg cs] w fun e w' => ∃ cs' : Array Value, e = .returned (.agg cs') ∧ Rvs w' (fun b => S b ∨ w.heap.size ≤ b) cs'.toList (sqD (concS x)) ∧ Below w.heap.size w w' := by
  obtain ⟨v, rfl, hv, -⟩ := sq_of hr
  have h1 := (conc_sizes18 hx).1
  refine (clone18 (concS x) v S w hv (by omega)).mono ?_
  rintro e w' ⟨v1, rfl, ho, hb⟩
  exact ⟨_, rfl, sqc_rvs ((own_rv ho).wide fun b (hb : w.heap.size + 2 ≤ b) => .inr (by omega)), hb⟩
theorem room18_any (x : Sx) (cs : Array Value) (S : Nat → Prop) (w : World) (hr : Rvs w S cs.toList (sqD (concS x))) (hx : OkS x) : Calls Try.prog 14 #[.agg cs] w fun e w' => e = .returned (.int .i64 (roomS x : Int)) ∧ Below w.heap.size w w' := by
  obtain ⟨v, rfl, hv, -⟩ := sq_of hr
  rw [← room_conc x hx]
  exact room18 (concS x) v S w hv (conc_sizes18 hx).1
theorem write18_any (x : Sx) (cs : Array Value) (S S2 : Nat → Prop) (v : Value) (s : List UInt8) (w : World) (hr : Rvs w S cs.toList (sqD (concS x))) (hx : OkS x) (hv : Rv w S2 v (bytesD s)) (hs : s.length ≤ 1000) : Calls Try.prog 20 #[.agg cs, v] w fun e w' => ∃ cs' : Array Value, e = .returned (.tuple #[.agg cs', .int .i64 (writeN x s : Int)]) ∧ Rvs w' (fun b => S b ∨ w.heap.size ≤ b) cs'.toList (sqD (concS (writeS x s))) ∧ Below w.heap.size w w' := by
  obtain ⟨vd, rfl, hvd, -⟩ := sq_of hr
  obtain ⟨e1, e2⟩ := write_conc hx s
  have h1 := (conc_sizes18 hx).1
  refine (write18 (concS x) vd S S2 v s w hvd h1 hv hs).mono ?_
  rintro e w' ⟨v1, rfl, ho, hb⟩
  rw [e1] at ho ⊢
  refine ⟨_, rfl, ?_, hb⟩
  rw [e2]
  refine sqc_rvs ?_
  have hl : (concS x).data.length + writeN x s = ((concS x).data ++ s.take (writeN x s)).length := by
    rw [List.length_append, List.length_take]
    have : writeN x s ≤ s.length := Nat.min_le_left ..
    omega
  rw [hl] at ho
  exact (own_rv ho).wide fun b (hb : w.heap.size + 2 ≤ b) => .inr (by omega)
theorem close18_any (x : Sx) (cs : Array Value) (S : Nat → Prop) (w : World) (hr : Rvs w S cs.toList (sqD (concS x))) (hx : OkS x) : Calls Try.prog 24 #[.agg cs] w fun e w' => ∃ cs' : Array Value, e = .returned (.agg cs') ∧ Rvs w' (fun b => S b ∨ w.heap.size ≤ b) cs'.toList (sqD (concS (closeS x))) ∧ Below w.heap.size w w' := by
  obtain ⟨v, rfl, hv, -⟩ := sq_of hr
  have h1 := (conc_sizes18 hx).1
  refine (close18 (concS x) v S w hv (by omega)).mono ?_
  rintro e w' ⟨v1, rfl, ho, hb⟩
  exact ⟨_, rfl, sqc_rvs (q := concS (closeS x)) ((own_rv ho).wide fun b (hb : w.heap.size + 2 ≤ b) => .inr (by omega)), hb⟩
theorem next18_any (x : Sx) (cs : Array Value) (S : Nat → Prop) (window mss : Int) (w : World) (hr : Rvs w S cs.toList (sqD (concS x))) (hx : OkS x) (hwi : I64 window) (hms : I64 mss) : Calls Try.prog 21 #[.agg cs, .int .i64 window, .int .i64 mss] w fun e w' => ∃ cs' ps : Array Value, e = .returned (.tuple #[.agg cs', .agg ps, .bool (nextE x window mss), .bool (nextO x window mss)]) ∧ Rvs w' (fun b => S b ∨ w.heap.size ≤ b) cs'.toList (sqD (concS (nextS x window mss))) ∧ Rvs w' (fun b => S b ∨ w.heap.size ≤ b) ps.toList (nextP x window mss) ∧ Below w.heap.size w w' := by
  obtain ⟨v, rfl, hv, -⟩ := sq_of hr
  obtain ⟨h1, h2⟩ := conc_sizes18 hx
  obtain ⟨-, e2, e3, e4, e5, e6⟩ := next_conc hx window mss
  refine (next18 (concS x) v S window mss w hv h2 h1 hwi hms).mono ?_
  rintro e w' ⟨v1, ps, rfl, ho, hp, hb⟩
  rw [← e5] at ho
  rw [e6] at hp
  refine ⟨_, ps, by rw [e2, e3], ?_, hp.wide fun b (hb : w.heap.size + 3 ≤ b) => .inr (by omega), hb⟩
  rw [← e4]
  exact sqc_rvs (ho.wide fun b (hb : w.heap.size + 3 ≤ b) => .inr (by omega))
theorem again18_any (x : Sx) (cs : Array Value) (S : Nat → Prop) (mss : Int) (w : World) (hr : Rvs w S cs.toList (sqD (concS x))) (hx : OkS x) (hms : I64 mss) : Calls Try.prog 22 #[.agg cs, .int .i64 mss] w fun e w' => ∃ ps : Array Value, e = .returned (.tuple #[.agg ps, .bool (againE x mss), .bool (againO x mss)]) ∧ Rvs w' (fun b => S b ∨ w.heap.size ≤ b) ps.toList (againP x mss) ∧ Below w.heap.size w w' := by
  obtain ⟨v, rfl, hv, -⟩ := sq_of hr
  obtain ⟨h1, h2⟩ := conc_sizes18 hx
  obtain ⟨e2, e3, e6⟩ := again_conc hx mss
  refine (again18 (concS x) v S mss w hv h2 h1 hms).mono ?_
  rintro e w' ⟨ps, rfl, hp, hb⟩
  rw [e6] at hp
  exact ⟨ps, by rw [e2, e3], hp.wide fun b (hb : w.heap.size + 2 ≤ b) => .inr (by omega), hb⟩
theorem flight18_any (x : Sx) (cs : Array Value) (S : Nat → Prop) (w : World) (hr : Rvs w S cs.toList (sqD (concS x))) (hx : OkS x) : Calls Try.prog 16 #[.agg cs] w fun e w' => e = .returned (.int .i64 (flightS x : Int)) ∧ Below w.heap.size w w' := by
  obtain ⟨v, rfl, hv, -⟩ := sq_of hr
  obtain ⟨h1, h2⟩ := conc_sizes18 hx
  have he : (flightS x : Int) = if ((concS x).fsent && !(concS x).facked) = true then ((concS x).sent : Int) + 1 else (concS x).sent := by
    rw [← flight_conc hx]
    unfold flQ
    split <;> rfl
  rw [he]
  exact flight18 (concS x) v S w hv h2 h1
theorem ack18_any (x : Sx) (cs : Array Value) (S : Nat → Prop) (a : Int) (w : World) (hr : Rvs w S cs.toList (sqD (concS x))) (hx : OkS x) (ha : U32 a) : Calls Try.prog 23 #[.agg cs, .int .u32 a] w fun e w' => ∃ cs' : Array Value, e = .returned (.tuple #[.agg cs', .int .i64 (ackN x a), .int .i64 (ackE x a)]) ∧ Rvs w' (fun b => S b ∨ w.heap.size ≤ b) cs'.toList (sqD (concS (ackS x a))) ∧ Below w.heap.size w w' := by
  obtain ⟨v, rfl, hv, -⟩ := sq_of hr
  obtain ⟨h1, h2⟩ := conc_sizes18 hx
  obtain ⟨e1, e2, e3⟩ := ack_conc hx ha
  refine (ack18 (concS x) v S a w hv h2 h1).mono ?_
  rintro e w' ⟨v1, rfl, ho, hb⟩
  refine ⟨_, by rw [e2, e3], ?_, hb⟩
  rw [← e1]
  exact sqc_rvs (ho.wide fun b (hb : w.heap.size + 2 ≤ b) => .inr (by omega))
theorem empty18_any (x : Sx) (cs : Array Value) (S : Nat → Prop) (w : World) (hr : Rvs w S cs.toList (sqD (concS x))) (_hx : OkS x) : Calls Try.prog 18 #[.agg cs] w fun e w' => e = .returned (.bool (emptyS x)) ∧ Below w.heap.size w w' := by
  obtain ⟨v, rfl, hv, -⟩ := sq_of hr
  rw [← empty_conc x]
  exact empty18 (concS x) v S w hv
end Go.Proofs.Ytebflcpoecolbaa
