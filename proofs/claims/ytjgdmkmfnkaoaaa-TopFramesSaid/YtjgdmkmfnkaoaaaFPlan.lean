/-
  The pieces of a packet in a turned order, some of them twice: what each makes of the hole. Plain mathematics, no program's walk, no condition.
-/
/-
  What the law FragAgain needs of the pieces: what becomes of the holes, piece by piece; frag.Add on any of them. No condition.
-/
import Derived.Test.YtjgdmkmfnkaoaaaFAdd
namespace Go.Proofs.Ytjgdmkmfnkaoaaa.F
open Go.RowKit

def sg (d : List UInt8) (b e : Nat) : List UInt8 := (d.drop b).take (e - b)
def PP (d : List UInt8) (b e : Nat) : Pt := ⟨(b : Int), sg d b e⟩
set_option maxRecDepth 100000 in
theorem sg_length (d : List UInt8) (b e : Nat) (h : e ≤ d.length) : (sg d b e).length = e - b := by
  unfold sg
  rw [List.length_take, List.length_drop]
  omega
set_option maxRecDepth 100000 in
theorem sg_get (d : List UInt8) (b e i : Nat) (h : i < e - b) : (sg d b e)[i]? = d[b + i]? := by
  unfold sg
  rw [List.getElem?_take, if_pos h, List.getElem?_drop]
set_option maxRecDepth 100000 in
theorem sg_full (d : List UInt8) : sg d 0 d.length = d := by
  unfold sg
  simp
def HH (p : Pk) (got : List Pt) (f : Int) : Hk := ⟨p.src, p.dst, p.proto, p.id, p.ttl, 0, f, got⟩
/-- q is the piece of p from b to e -/
structure IsPc (p q : Pk) (b e : Nat) : Prop where
  off : q.off = (b : Int)
  data : q.data = sg p.data b e
  lt : b < e
  le : e ≤ p.data.length
  more : q.more = decide (e < p.data.length)
  src : q.src = p.src
  dst : q.dst = p.dst
  proto : q.proto = p.proto
  id : q.id = p.id
  ttl : q.ttl = p.ttl
section
variable {p q : Pk} {b' e' : Nat}
set_option maxRecDepth 100000 in
theorem IsPc.len (h : IsPc p q b' e') : q.data.length = e' - b' := by rw [h.data]; exact sg_length _ _ _ h.le
set_option maxRecDepth 100000 in
theorem IsPc.fin (h : IsPc p q b' e') : endP q = (e' : Int) := by
  unfold endP
  have := h.lt
  rw [h.off, h.len]
  omega
set_option maxRecDepth 100000 in
theorem PP_fin (d : List UInt8) (b e : Nat) (h : b ≤ e) (he : e ≤ d.length) : (PP d b e).fin = (e : Int) := by
  unfold Pt.fin PP
  simp only [sg_length d b e he]
  omega
set_option maxRecDepth 100000 in
theorem behind_pp (h : IsPc p q b' e') (b e : Nat) : behindB q (PP p.data b e) = decide (e' < b) := by
  unfold behindB
  rw [h.fin]
  simp only [PP]
  congr 1
  simp
set_option maxRecDepth 100000 in
theorem touch_pp (h : IsPc p q b' e') (b e : Nat) (hb : b ≤ e) (he : e ≤ p.data.length) : touchB q (PP p.data b e) = (!decide (e' < b) && !decide (e < b')) := by
  unfold touchB
  rw [behind_pp h, PP_fin _ _ _ hb he, h.off]
  congr 2
  simp
set_option maxRecDepth 100000 in
theorem ahead_pp (h : IsPc p q b' e') (b e : Nat) (hb : b ≤ e) (he : e ≤ p.data.length) : aheadB q (PP p.data b e) = (!decide (e' < b) && decide (e < b')) := by
  unfold aheadB
  rw [behind_pp h, PP_fin _ _ _ hb he, h.off]
  congr 1
  simp
set_option maxRecDepth 100000 in
theorem over_get (l : List UInt8) (k : Nat) (x : List UInt8) (i : Nat) (h : k + x.length ≤ l.length) : (over l k x)[i]? = if k ≤ i ∧ i < k + x.length then x[i - k]? else l[i]? := by
  unfold over
  have hk : (l.take k).length = k := by rw [List.length_take]; omega
  have hkx : (l.take k ++ x).length = k + x.length := by rw [List.length_append, hk]
  by_cases h1 : i < k
  · rw [if_neg (by omega), List.append_assoc, List.getElem?_append_left (by omega), List.getElem?_take, if_pos h1]
  · by_cases h2 : i < k + x.length
    · rw [if_pos ⟨by omega, h2⟩, List.getElem?_append_left (by omega), List.getElem?_append_right (by omega), hk]
    · rw [if_neg (by omega), List.getElem?_append_right (by omega), hkx, List.getElem?_drop]
      congr 1
      omega
set_option maxRecDepth 100000 in
/-- parts laid over bytes that agree with the data -/
theorem fold_agree (d : List UInt8) (f t : Nat) (ht : t ≤ d.length) : ∀ (ts : List Pt) (l : List UInt8) (C : Nat → Prop), l.length = t - f → (∀ x, x < t - f → C x → l[x]? = d[f + x]?) →
    (∀ u ∈ ts, ∃ b e, u = PP d b e ∧ f ≤ b ∧ b ≤ e ∧ e ≤ t) →
    (ts.foldl (fun a u => over a (u.off - (f : Int)).toNat u.data) l).length = t - f ∧ ∀ x, x < t - f → (C x ∨ ∃ u ∈ ts, u.off ≤ ((f + x : Nat) : Int) ∧ ((f + x : Nat) : Int) < u.fin) → (ts.foldl (fun a u => over a (u.off - (f : Int)).toNat u.data) l)[x]? = d[f + x]?
  | [], l, C, hl, hC, _ => ⟨hl, fun x hx h => by
    rcases h with h | ⟨u, hu, _⟩
    · exact hC x hx h
    · cases hu⟩
  | u :: ts, l, C, hl, hC, hts => by
    obtain ⟨b, e, hu, h1, h2, h3⟩ := hts u List.mem_cons_self
    have hk : (u.off - (f : Int)).toNat = b - f := by rw [hu]; simp only [PP]; omega
    have hlen : u.data.length = e - b := by rw [hu]; exact sg_length _ _ _ (by omega)
    have ho : (b - f) + u.data.length ≤ l.length := by rw [hlen, hl]; omega
    have ih := fold_agree d f t ht ts (over l (b - f) u.data) (fun x => C x ∨ (b ≤ f + x ∧ f + x < e)) (by rw [over_length _ _ _ ho, hl]) (fun x hx hc => by
      rw [over_get _ _ _ _ ho, hlen]
      split
      · rename_i hin
        rw [hu]
        show (sg d b e)[x - (b - f)]? = _
        rw [sg_get _ _ _ _ (by omega)]
        congr 1
        omega
      · rename_i hout
        rcases hc with hc | hc
        · exact hC x hx hc
        · exact absurd ⟨by omega, by omega⟩ hout) (fun v hv => hts v (List.mem_cons_of_mem _ hv))
    rw [List.foldl_cons, hk]
    refine ⟨ih.1, fun x hx h => ih.2 x hx ?_⟩
    rcases h with h | ⟨v, hv, h4, h5⟩
    · exact .inl (.inl h)
    · rcases List.mem_cons.1 hv with rfl | hv
      · refine .inl (.inr ?_)
        rw [hu, PP_fin _ _ _ h2 (by omega)] at h5
        rw [hu] at h4
        simp only [PP] at h4
        omega
      · exact .inr ⟨v, hv, h4, h5⟩
set_option maxRecDepth 100000 in
theorem join_is (h : IsPc p q b' e') (l ts : List Pt) (f t : Nat) (hts : l.filter (touchB q) = ts) (hf : fromP q l = (f : Int)) (htt : toP q l = (t : Int)) (hfb : f ≤ b') (het : e' ≤ t) (ht : t ≤ p.data.length)
    (hin : ∀ u ∈ ts, ∃ b e, u = PP p.data b e ∧ f ≤ b ∧ b ≤ e ∧ e ≤ t) (hcov : ∀ x, f ≤ x → x < t → (b' ≤ x ∧ x < e') ∨ ∃ u ∈ ts, u.off ≤ (x : Int) ∧ (x : Int) < u.fin) : joinP q l = sg p.data f t := by
  unfold joinP
  have hlt := h.lt
  rw [hts, hf, htt, h.off, show ((t : Int) - (f : Int)).toNat = t - f from by omega, show ((b' : Int) - (f : Int)).toNat = b' - f from by omega]
  have ho : (b' - f) + q.data.length ≤ (List.replicate (t - f) (0 : UInt8)).length := by rw [h.len, List.length_replicate]; omega
  have hfa := fold_agree p.data f t ht ts (over (List.replicate (t - f) 0) (b' - f) q.data) (fun x => b' ≤ f + x ∧ f + x < e') (by rw [over_length _ _ _ ho, List.length_replicate]) (fun x hx hc => by
    rw [over_get _ _ _ _ ho, h.len, if_pos ⟨by omega, by omega⟩, h.data, sg_get _ _ _ _ (by omega)]
    congr 1
    omega) hin
  apply List.ext_getElem?
  intro x
  by_cases hx : x < t - f
  · rw [hfa.2 x hx, sg_get _ _ _ _ hx]
    rcases hcov (f + x) (by omega) (by omega) with hc | hc
    · exact .inl hc
    · exact .inr hc
  · rw [List.getElem?_eq_none (by rw [hfa.1]; omega), List.getElem?_eq_none (by rw [sg_length _ _ _ ht]; omega)]
def gotP (q : Pk) (l : List Pt) : List Pt := l.filter (aheadB q) ++ [⟨fromP q l, joinP q l⟩] ++ l.filter (behindB q)
set_option maxRecDepth 100000 in
theorem got_none (h : IsPc p q b' e') : gotP q [] = [PP p.data b' e'] := by
  have hj := join_is h [] [] b' e' rfl (by unfold fromP; simp [h.off]) (by unfold toP; simp [h.fin]) (Nat.le_refl _) (Nat.le_refl _) h.le (fun u hu => by cases hu) (fun x h1 h2 => .inl ⟨h1, h2⟩)
  unfold gotP
  rw [hj]
  simp [fromP, h.off, PP]
set_option maxRecDepth 100000 in
theorem got_touch (h : IsPc p q b' e') (b e : Nat) (hb : b < e) (he : e ≤ p.data.length) (h1 : b ≤ e') (h2 : b' ≤ e) : gotP q [PP p.data b e] = [PP p.data (min b b') (max e e')] := by
  have hlt := h.lt
  have hle := h.le
  have ht : touchB q (PP p.data b e) = true := by rw [touch_pp h _ _ (by omega) he]; simp; omega
  have ha : aheadB q (PP p.data b e) = false := by rw [ahead_pp h _ _ (by omega) he]; simp; omega
  have hbe : behindB q (PP p.data b e) = false := by rw [behind_pp h]; simp; omega
  have hts : [PP p.data b e].filter (touchB q) = [PP p.data b e] := by simp [ht]
  have hf : fromP q [PP p.data b e] = ((min b b' : Nat) : Int) := by unfold fromP; rw [hts]; simp only [List.foldl_cons, List.foldl_nil, h.off, PP]; omega
  have htt : toP q [PP p.data b e] = ((max e e' : Nat) : Int) := by unfold toP; rw [hts]; simp only [List.foldl_cons, List.foldl_nil, h.fin, PP_fin _ _ _ (Nat.le_of_lt hb) he]; omega
  have hj := join_is h _ _ _ _ hts hf htt (by omega) (by omega) (by omega) (fun u hu => by
    rw [List.mem_singleton] at hu
    exact ⟨b, e, hu, by omega, by omega, by omega⟩) (fun x h3 h4 => by
    by_cases hx : b' ≤ x ∧ x < e'
    · exact .inl hx
    · refine .inr ⟨_, List.mem_singleton.2 rfl, ?_, ?_⟩
      · simp only [PP]; omega
      · rw [PP_fin _ _ _ (Nat.le_of_lt hb) he]; omega)
  have fa : [PP p.data b e].filter (aheadB q) = [] := by simp [ha]
  have fb : [PP p.data b e].filter (behindB q) = [] := by simp [hbe]
  unfold gotP
  rw [hj, hf, fa, fb]
  rfl
set_option maxRecDepth 100000 in
theorem got_ahead (h : IsPc p q b' e') (b e : Nat) (hb : b < e) (he : e ≤ p.data.length) (h1 : e < b') : gotP q [PP p.data b e] = [PP p.data b e, PP p.data b' e'] := by
  have hlt := h.lt
  have ht : touchB q (PP p.data b e) = false := by rw [touch_pp h _ _ (by omega) he]; simp; omega
  have ha : aheadB q (PP p.data b e) = true := by rw [ahead_pp h _ _ (by omega) he]; simp; omega
  have hbe : behindB q (PP p.data b e) = false := by rw [behind_pp h]; simp; omega
  have hts : [PP p.data b e].filter (touchB q) = [] := by simp [ht]
  have hf : fromP q [PP p.data b e] = (b' : Int) := by unfold fromP; rw [hts]; simp [h.off]
  have htt : toP q [PP p.data b e] = (e' : Int) := by unfold toP; rw [hts]; simp [h.fin]
  have hj := join_is h _ _ _ _ hts hf htt (Nat.le_refl _) (Nat.le_refl _) h.le (fun u hu => by cases hu) (fun x h3 h4 => .inl ⟨h3, h4⟩)
  have fa : [PP p.data b e].filter (aheadB q) = [PP p.data b e] := by simp [ha]
  have fb : [PP p.data b e].filter (behindB q) = [] := by simp [hbe]
  unfold gotP
  rw [hj, hf, fa, fb]
  rfl
set_option maxRecDepth 100000 in
theorem got_second (h : IsPc p q b' e') (b e b2 e2 : Nat) (hb : b < e) (he : e ≤ p.data.length) (h1 : e < b') (hb2 : b2 < e2) (he2 : e2 ≤ p.data.length) (h2 : b2 ≤ e') (h3 : b' ≤ e2) : gotP q [PP p.data b e, PP p.data b2 e2] = [PP p.data b e, PP p.data (min b2 b') (max e2 e')] := by
  have hlt := h.lt
  have hle := h.le
  have ht : touchB q (PP p.data b e) = false := by rw [touch_pp h _ _ (by omega) he]; simp; omega
  have ha : aheadB q (PP p.data b e) = true := by rw [ahead_pp h _ _ (by omega) he]; simp; omega
  have hbe : behindB q (PP p.data b e) = false := by rw [behind_pp h]; simp; omega
  have ht2 : touchB q (PP p.data b2 e2) = true := by rw [touch_pp h _ _ (by omega) he2]; simp; omega
  have ha2 : aheadB q (PP p.data b2 e2) = false := by rw [ahead_pp h _ _ (by omega) he2]; simp; omega
  have hbe2 : behindB q (PP p.data b2 e2) = false := by rw [behind_pp h]; simp; omega
  have hts : [PP p.data b e, PP p.data b2 e2].filter (touchB q) = [PP p.data b2 e2] := by simp [ht, ht2]
  have hf : fromP q [PP p.data b e, PP p.data b2 e2] = ((min b2 b' : Nat) : Int) := by unfold fromP; rw [hts]; simp only [List.foldl_cons, List.foldl_nil, h.off, PP]; omega
  have htt : toP q [PP p.data b e, PP p.data b2 e2] = ((max e2 e' : Nat) : Int) := by unfold toP; rw [hts]; simp only [List.foldl_cons, List.foldl_nil, h.fin, PP_fin _ _ _ (Nat.le_of_lt hb2) he2]; omega
  have hj := join_is h _ _ _ _ hts hf htt (by omega) (by omega) (by omega) (fun u hu => by
    rw [List.mem_singleton] at hu
    exact ⟨b2, e2, hu, by omega, by omega, by omega⟩) (fun x h3 h4 => by
    by_cases hx : b' ≤ x ∧ x < e'
    · exact .inl hx
    · refine .inr ⟨_, List.mem_singleton.2 rfl, ?_, ?_⟩
      · simp only [PP]; omega
      · rw [PP_fin _ _ _ (Nat.le_of_lt hb2) he2]; omega)
  have fa : [PP p.data b e, PP p.data b2 e2].filter (aheadB q) = [PP p.data b e] := by simp [ha, ha2]
  have fb : [PP p.data b e, PP p.data b2 e2].filter (behindB q) = [] := by simp [hbe, hbe2]
  unfold gotP
  rw [hj, hf, fa, fb]
  rfl
set_option maxRecDepth 100000 in
theorem got_both (h : IsPc p q b' e') (e2 : Nat) (hb : 0 < b') (he2 : e2 ≤ p.data.length) (h2 : e' < e2) : gotP q [PP p.data 0 b', PP p.data e' e2] = [PP p.data 0 e2] := by
  have hlt := h.lt
  have hle := h.le
  have ht : touchB q (PP p.data 0 b') = true := by rw [touch_pp h _ _ (by omega) (by omega)]; simp
  have ha : aheadB q (PP p.data 0 b') = false := by rw [ahead_pp h _ _ (by omega) (by omega)]; simp
  have hbe : behindB q (PP p.data 0 b') = false := by rw [behind_pp h]; simp
  have ht2 : touchB q (PP p.data e' e2) = true := by rw [touch_pp h _ _ (by omega) he2]; simp; omega
  have ha2 : aheadB q (PP p.data e' e2) = false := by rw [ahead_pp h _ _ (by omega) he2]; simp; omega
  have hbe2 : behindB q (PP p.data e' e2) = false := by rw [behind_pp h]; simp
  have hts : [PP p.data 0 b', PP p.data e' e2].filter (touchB q) = [PP p.data 0 b', PP p.data e' e2] := by simp [ht, ht2]
  have hf : fromP q [PP p.data 0 b', PP p.data e' e2] = ((0 : Nat) : Int) := by unfold fromP; rw [hts]; simp only [List.foldl_cons, List.foldl_nil, h.off, PP]; omega
  have htt : toP q [PP p.data 0 b', PP p.data e' e2] = (e2 : Int) := by unfold toP; rw [hts]; simp only [List.foldl_cons, List.foldl_nil, h.fin, PP_fin _ _ _ (Nat.le_of_lt h2) he2, PP_fin p.data 0 b' (Nat.zero_le _) (by omega)]; omega
  have hj := join_is h _ _ _ _ hts hf htt (by omega) (by omega) (by omega) (fun u hu => by
    simp only [List.mem_cons, List.not_mem_nil, or_false] at hu
    rcases hu with hu | hu
    · exact ⟨0, b', hu, by omega, by omega, by omega⟩
    · exact ⟨e', e2, hu, by omega, by omega, by omega⟩) (fun x h3 h4 => by
    by_cases hx : b' ≤ x ∧ x < e'
    · exact .inl hx
    · by_cases hx2 : x < b'
      · refine .inr ⟨PP p.data 0 b', by simp, ?_, ?_⟩
        · simp only [PP]; omega
        · rw [PP_fin _ _ _ (by omega) (by omega)]; omega
      · refine .inr ⟨PP p.data e' e2, by simp, ?_, ?_⟩
        · simp only [PP]; omega
        · rw [PP_fin _ _ _ (Nat.le_of_lt h2) he2]; omega)
  have fa : [PP p.data 0 b', PP p.data e' e2].filter (aheadB q) = [] := by simp [ha, ha2]
  have fb : [PP p.data 0 b', PP p.data e' e2].filter (behindB q) = [] := by simp [hbe, hbe2]
  unfold gotP
  rw [hj, hf, fa, fb]
  rfl
/-- what a piece makes of the one hole -/
def stepR (p : Pk) (got : List Pt) (f : Int) : List Hk × Pk × Bool × Int := if wholeB (HH p got f) then ([], packetP (HH p got f), true, 0) else ([HH p got f], Pk.zero, false, 0)
set_option maxRecDepth 100000 in
theorem lay_is (h : IsPc p q b' e') (got : List Pt) (f : Int) : layP (HH p got f) q = HH p (gotP q got) (if e' < p.data.length then f else (e' : Int)) := by
  unfold layP HH gotP
  rw [h.more, h.fin]
  simp
set_option maxRecDepth 100000 in
theorem belongs_is (h : IsPc p q b' e') (got : List Pt) (f : Int) : belongsB q (HH p got f) = true := by
  unfold belongsB HH
  simp [h.src, h.dst, h.proto, h.id]
set_option maxRecDepth 100000 in
theorem begin_is (h : IsPc p q b' e') : beginP q 0 = HH p [] (-1) := by
  unfold beginP HH
  rw [h.src, h.dst, h.proto, h.id, h.ttl]
set_option maxRecDepth 100000 in
theorem conds (h : IsPc p q b' e') (hn : p.data.length ≤ 1000) (hf : b' % 8 = 0) (hf2 : e' < p.data.length → e' % 8 = 0) (hnw : ¬ (b' = 0 ∧ e' = p.data.length)) :
    ¬ (q.off < 0 ∨ 1000 < q.off ∨ 1000 < endP q) ∧ ¬ (q.off = 0 ∧ q.more = false) ∧ ¬ formedB q = false := by
  have hlt := h.lt
  have hle := h.le
  refine ⟨by rw [h.off, h.fin]; omega, ?_, ?_⟩
  · rw [h.off, h.more]
    rintro ⟨h1, h2⟩
    simp at h2
    exact hnw ⟨by omega, by omega⟩
  · unfold formedB
    rw [h.off, h.len, h.more]
    by_cases hm : e' < p.data.length
    · have := hf2 hm
      simp [hm]
      omega
    · simp [hm]
      omega
set_option maxRecDepth 100000 in
theorem add_at (h : IsPc p q b' e') (l : List Hk) (got : List Pt) (f : Int) (hl : l = [HH p got f] ) (hfit : fitsB q (HH p got f) = true) : addAt l 0 (HH p got f) q = stepR p (gotP q got) (if e' < p.data.length then f else (e' : Int)) := by
  unfold addAt stepR
  rw [hfit, lay_is h, hl]
  simp
set_option maxRecDepth 100000 in
theorem add_first (h : IsPc p q b' e') (hn : p.data.length ≤ 1000) (hf : b' % 8 = 0) (hf2 : e' < p.data.length → e' % 8 = 0) (hnw : ¬ (b' = 0 ∧ e' = p.data.length)) : addP [] q 0 = stepR p [PP p.data b' e'] (if e' < p.data.length then -1 else (e' : Int)) := by
  obtain ⟨c1, c2, c3⟩ := conds h hn hf hf2 hnw
  unfold addP
  rw [if_neg c1, if_neg c2, if_neg c3]
  show (if 8 ≤ ([] : List Hk).length then _ else addAt ([] ++ [beginP q 0]) 0 (beginP q 0) q) = _
  rw [if_neg (by decide), begin_is h, ← got_none h]
  exact add_at h _ _ _ rfl (by unfold fitsB HH; simp)
set_option maxRecDepth 100000 in
theorem age_one (p : Pk) (got : List Pt) (f : Int) : ageP [HH p got f] 0 = [HH p got f] := by
  unfold ageP oldB HH
  simp
set_option maxRecDepth 100000 in
theorem add_next (h : IsPc p q b' e') (hn : p.data.length ≤ 1000) (hf : b' % 8 = 0) (hf2 : e' < p.data.length → e' % 8 = 0) (hnw : ¬ (b' = 0 ∧ e' = p.data.length)) (got : List Pt) (f : Int) (hfit : fitsB q (HH p got f) = true) :
    addP [HH p got f] q 0 = stepR p (gotP q got) (if e' < p.data.length then f else (e' : Int)) := by
  obtain ⟨c1, c2, c3⟩ := conds h hn hf hf2 hnw
  unfold addP
  rw [if_neg c1, if_neg c2, if_neg c3, age_one]
  have : [HH p got f].findIdx? (belongsB q) = some 0 := by simp [List.findIdx?_cons, belongs_is h]
  rw [this]
  exact add_at h _ _ _ rfl hfit
set_option maxRecDepth 100000 in
theorem fit_end (h : IsPc p q b' e') (got : List Pt) : fitsB q (HH p got (p.data.length : Int)) = true := by
  have := h.le
  unfold fitsB HH
  simp only
  rw [if_pos (by omega), h.fin, h.more]
  by_cases hm : e' < p.data.length
  · simp [hm]
  · have : e' = p.data.length := by omega
    simp [this]
set_option maxRecDepth 100000 in
theorem fit_more (h : IsPc p q b' e') (got : List Pt) (hm : e' < p.data.length) : fitsB q (HH p got (-1)) = true := by
  unfold fitsB HH
  simp only
  rw [if_neg (by decide), h.more]
  simp [hm]
set_option maxRecDepth 100000 in
theorem fit_last (h : IsPc p q b' e') (b e : Nat) (hb : b ≤ e) (he : e ≤ e') (hl : e' = p.data.length) : fitsB q (HH p [PP p.data b e] (-1)) = true := by
  unfold fitsB HH
  simp only
  rw [if_neg (by decide)]
  have : furtherB q (PP p.data b e) = false := by
    unfold furtherB
    rw [h.fin]
    simp only [PP, sg_length p.data b e (by omega)]
    simp
    omega
  simp [this]
theorem step_two (a b : Pt) (f : Int) : stepR p [a, b] f = ([HH p [a, b] f], Pk.zero, false, 0) := rfl
set_option maxRecDepth 100000 in
theorem step_open (b e : Nat) (hb : b ≤ e) (he : e ≤ p.data.length) (f : Int) (h : ¬ (b = 0 ∧ f = (e : Int))) : stepR p [PP p.data b e] f = ([HH p [PP p.data b e] f], Pk.zero, false, 0) := by
  unfold stepR
  rw [if_neg]
  unfold wholeB HH
  simp only [PP, sg_length p.data b e he]
  simp
  intro h1 h2
  exact h ⟨h1, by omega⟩
set_option maxRecDepth 100000 in
theorem step_whole (ho : p.off = 0) (hm : p.more = false) : stepR p [PP p.data 0 p.data.length] (p.data.length : Int) = ([], p, true, 0) := by
  unfold stepR
  have hw : wholeB (HH p [PP p.data 0 p.data.length] (p.data.length : Int)) = true := by
    unfold wholeB HH
    simp only [PP, sg_full]
    simp
  rw [if_pos hw]
  unfold packetP HH PP
  simp only [sg_full, List.headD_cons]
  cases p
  simp at ho hm
  subst ho hm
  rfl

set_option maxRecDepth 100000 in
/-- a piece of a packet in pieces -/
theorem piece_is (p : Pk) (m : Nat) (hm : 176 * m < p.data.length) : IsPc p (pieceP p m) (176 * m) (min (176 * (m + 1)) p.data.length) := by
  refine ⟨rfl, ?_, by omega, by omega, ?_, rfl, rfl, rfl, rfl, rfl⟩
  · show (p.data.drop (176 * m)).take 176 = _
    unfold sg
    by_cases h : 176 * (m + 1) ≤ p.data.length
    · congr 1
      omega
    · rw [List.take_of_length_le (by rw [List.length_drop]; omega), List.take_of_length_le (by rw [List.length_drop]; omega)]
  · show decide _ = decide _
    congr 1
    simp
    omega
/-- the hole, so many pieces having come -/
def stA (p : Pk) (N a i : Nat) : List Hk :=
  if i = 0 then []
  else if i ≤ a + 1 then [HH p [PP p.data (176 * (a + 1 - i)) (min (176 * (a + 1)) p.data.length)] (if a + 1 = N then (p.data.length : Int) else -1)]
  else [HH p [PP p.data 0 (176 * (a + 1)), PP p.data (176 * (N + a + 1 - i)) p.data.length] (p.data.length : Int)]
/-- which piece comes -/
def pcA (N a i : Nat) : Nat := if i ≤ a then a - i else N + a - i
set_option maxRecDepth 100000 in
theorem stA_le (p : Pk) (N a i : Nat) : (stA p N a i).length ≤ 1 := by
  unfold stA
  split
  · exact Nat.zero_le _
  · split <;> exact Nat.le_refl _
set_option maxRecDepth 100000 in
theorem stA_got (p : Pk) (N a i : Nat) : ∀ h ∈ stA p N a i, h.got.length < 1000 := by
  intro h hh
  unfold stA at hh
  split at hh
  · cases hh
  · split at hh <;> (rw [List.mem_singleton] at hh; subst hh; simp [HH])
section
variable {p : Pk} {N a : Nat}
set_option maxRecDepth 100000 in
/-- a piece that comes the first time -/
theorem again_new (hn : p.data.length ≤ 1000) (h1 : 176 * (N - 1) < p.data.length) (h2 : p.data.length ≤ 176 * N) (hN : 2 ≤ N) (ha : a < N) (ho : p.off = 0) (hm : p.more = false) (i : Nat) (hi : i < N) :
    addP (stA p N a i) (pieceP p (pcA N a i)) 0 = if i + 1 = N then ([], p, true, 0) else (stA p N a (i + 1), Pk.zero, false, 0) := by
  have hpl : pcA N a i < N := by unfold pcA; split <;> omega
  have hq := piece_is p (pcA N a i) (by have : 176 * pcA N a i ≤ 176 * (N - 1) := Nat.mul_le_mul_left _ (by omega); omega)
  have f8 : 176 * pcA N a i % 8 = 0 := by omega
  have f8' : min (176 * (pcA N a i + 1)) p.data.length < p.data.length → min (176 * (pcA N a i + 1)) p.data.length % 8 = 0 := by omega
  have hnw : ¬ (176 * pcA N a i = 0 ∧ min (176 * (pcA N a i + 1)) p.data.length = p.data.length) := by omega
  by_cases h0 : i = 0
  · subst h0
    have e1 : pcA N a 0 = a := by unfold pcA; simp
    rw [e1] at hq f8 f8' hnw ⊢
    have e2 : stA p N a 0 = [] := rfl
    rw [e2, add_first hq hn f8 f8' hnw, if_neg (show ¬ 0 + 1 = N by omega), step_open _ _ (by omega) (by omega) _ (by split <;> omega)]
    have e3 : stA p N a (0 + 1) = [HH p [PP p.data (176 * (a + 1 - 1)) (min (176 * (a + 1)) p.data.length)] (if a + 1 = N then (p.data.length : Int) else -1)] := by
      unfold stA
      rw [if_neg (by omega), if_pos (by omega)]
    rw [e3, show a + 1 - 1 = a from rfl]
    by_cases hl : a + 1 = N
    · subst hl
      rw [if_neg (by omega), if_pos rfl, show min (176 * (a + 1)) p.data.length = p.data.length from by omega]
    · have : 176 * (a + 1) ≤ 176 * (N - 1) := Nat.mul_le_mul_left _ (by omega)
      rw [if_pos (by omega), if_neg hl]
  by_cases hia : i ≤ a
  · have e1 : pcA N a i = a - i := by unfold pcA; rw [if_pos hia]
    rw [e1] at hq f8 f8' hnw ⊢
    have hmid : 176 * (a - i + 1) ≤ 176 * (N - 1) := Nat.mul_le_mul_left _ (by omega)
    have ee : min (176 * (a - i + 1)) p.data.length = 176 * (a - i + 1) := by omega
    rw [ee] at hq f8' hnw
    have e2 : stA p N a i = [HH p [PP p.data (176 * (a - i + 1)) (min (176 * (a + 1)) p.data.length)] (if a + 1 = N then (p.data.length : Int) else -1)] := by
      unfold stA
      rw [if_neg h0, if_pos (by omega), show a + 1 - i = a - i + 1 from by omega]
    have hmul : 176 * (a - i + 1) < 176 * (a + 1) := by omega
    rw [e2, add_next hq hn f8 f8' hnw _ _ (by
      by_cases hl : a + 1 = N
      · rw [if_pos hl]; exact fit_end hq _
      · rw [if_neg hl]; exact fit_more hq _ (by omega)), got_touch hq _ _ (by omega) (by omega) (by omega) (by omega), if_pos (by omega)]
    rw [show min (176 * (a - i + 1)) (176 * (a - i)) = 176 * (a - i) from by omega, show max (min (176 * (a + 1)) p.data.length) (176 * (a - i + 1)) = min (176 * (a + 1)) p.data.length from by omega]
    by_cases hl : i + 1 = N
    · have hai : a = i := by omega
      subst hai
      rw [if_pos hl, if_pos hl, show a - a = 0 from by omega, show min (176 * (a + 1)) p.data.length = p.data.length from by rw [hl]; omega]
      exact step_whole ho hm
    · rw [if_neg hl, step_open _ _ (by omega) (by omega) _ (by split <;> omega)]
      have e3 : stA p N a (i + 1) = [HH p [PP p.data (176 * (a + 1 - (i + 1))) (min (176 * (a + 1)) p.data.length)] (if a + 1 = N then (p.data.length : Int) else -1)] := by
        unfold stA
        rw [if_neg (by omega), if_pos (by omega)]
      rw [e3, show a + 1 - (i + 1) = a - i from by omega]
  · have e1 : pcA N a i = N + a - i := by unfold pcA; rw [if_neg hia]
    rw [e1] at hq f8 f8' hnw ⊢
    have haN : 176 * (a + 1) ≤ 176 * (N - 1) := Nat.mul_le_mul_left _ (by omega)
    by_cases hi1 : i = a + 1
    · subst hi1
      rw [show N + a - (a + 1) = N - 1 from by omega] at hq f8 f8' hnw ⊢
      rw [show min (176 * (N - 1 + 1)) p.data.length = p.data.length from by omega] at hq f8' hnw
      have e2 : stA p N a (a + 1) = [HH p [PP p.data 0 (176 * (a + 1))] (-1)] := by
        unfold stA
        rw [if_neg h0, if_pos (Nat.le_refl _), if_neg (by omega), Nat.sub_self, Nat.mul_zero, Nat.min_eq_left (by omega)]
      rw [e2, add_next hq hn f8 f8' hnw _ _ (fit_last hq _ _ (by omega) (by omega) rfl), if_neg (by omega)]
      by_cases hl : a + 1 + 1 = N
      · rw [if_pos hl, got_touch hq _ _ (by omega) (by omega) (by omega) (by omega), Nat.min_eq_left (Nat.zero_le _), Nat.max_eq_right (by omega)]
        exact step_whole ho hm
      · have : 176 * (a + 1) < 176 * (N - 1) := by omega
        rw [if_neg hl, got_ahead hq _ _ (by omega) (by omega) this, step_two]
        have e3 : stA p N a (a + 1 + 1) = [HH p [PP p.data 0 (176 * (a + 1)), PP p.data (176 * (N + a + 1 - (a + 1 + 1))) p.data.length] (p.data.length : Int)] := by
          unfold stA
          rw [if_neg (by omega), if_neg (by omega)]
        rw [e3, show N + a + 1 - (a + 1 + 1) = N - 1 from by omega]
    · obtain ⟨j, hj⟩ : ∃ j, N + a - i = j := ⟨_, rfl⟩
      rw [hj] at hq f8 f8' hnw ⊢
      have hjN : 176 * (j + 1) ≤ 176 * (N - 1) := Nat.mul_le_mul_left _ (by omega)
      rw [show min (176 * (j + 1)) p.data.length = 176 * (j + 1) from by omega] at hq f8' hnw
      have e2 : stA p N a i = [HH p [PP p.data 0 (176 * (a + 1)), PP p.data (176 * (j + 1)) p.data.length] (p.data.length : Int)] := by
        unfold stA
        rw [if_neg h0, if_neg (by omega), show N + a + 1 - i = j + 1 from by omega]
      rw [e2, add_next hq hn f8 f8' hnw _ _ (fit_end hq _), if_pos (by omega)]
      by_cases hl : i + 1 = N
      · have hja : j = a + 1 := by omega
        subst hja
        rw [if_pos hl, got_both hq _ (by omega) (Nat.le_refl _) (by omega)]
        exact step_whole ho hm
      · rw [if_neg hl, got_second hq _ _ _ _ (by omega) (by omega) (by omega) (by omega) (Nat.le_refl _) (by omega) (by omega), step_two, Nat.min_eq_right (by omega), Nat.max_eq_left (by omega)]
        have e3 : stA p N a (i + 1) = [HH p [PP p.data 0 (176 * (a + 1)), PP p.data (176 * (N + a + 1 - (i + 1))) p.data.length] (p.data.length : Int)] := by
          unfold stA
          rw [if_neg (by omega), if_neg (by omega)]
        rw [e3, show N + a + 1 - (i + 1) = j from by omega]
set_option maxRecDepth 100000 in
/-- .. and the second time -/
theorem again_twice (hn : p.data.length ≤ 1000) (h1 : 176 * (N - 1) < p.data.length) (h2 : p.data.length ≤ 176 * N) (hN : 2 ≤ N) (ha : a < N) (i : Nat) (hi : i + 1 < N) :
    addP (stA p N a (i + 1)) (pieceP p (pcA N a i)) 0 = (stA p N a (i + 1), Pk.zero, false, 0) := by
  have hpl : pcA N a i < N := by unfold pcA; split <;> omega
  have hq := piece_is p (pcA N a i) (by have : 176 * pcA N a i ≤ 176 * (N - 1) := Nat.mul_le_mul_left _ (by omega); omega)
  have f8 : 176 * pcA N a i % 8 = 0 := by omega
  have f8' : min (176 * (pcA N a i + 1)) p.data.length < p.data.length → min (176 * (pcA N a i + 1)) p.data.length % 8 = 0 := by omega
  have hnw : ¬ (176 * pcA N a i = 0 ∧ min (176 * (pcA N a i + 1)) p.data.length = p.data.length) := by omega
  by_cases hia : i ≤ a
  · have e1 : pcA N a i = a - i := by unfold pcA; rw [if_pos hia]
    rw [e1] at hq f8 f8' hnw ⊢
    have e3 : stA p N a (i + 1) = [HH p [PP p.data (176 * (a - i)) (min (176 * (a + 1)) p.data.length)] (if a + 1 = N then (p.data.length : Int) else -1)] := by
      unfold stA
      rw [if_neg (by omega), if_pos (by omega), show a + 1 - (i + 1) = a - i from by omega]
    have hle : 176 * (a - i + 1) ≤ 176 * (a + 1) := Nat.mul_le_mul_left _ (by omega)
    have hlow : 176 * (a - i) ≤ 176 * (N - 1) := Nat.mul_le_mul_left _ (by omega)
    have hnl : a + 1 ≠ N → 176 * (a + 1) ≤ 176 * (N - 1) := fun h => Nat.mul_le_mul_left _ (by omega)
    have hmo : i ≠ 0 → 176 * (a - i + 1) ≤ 176 * (N - 1) := fun h => Nat.mul_le_mul_left _ (by omega)
    rw [e3, add_next hq hn f8 f8' hnw _ _ (by
      by_cases hl : a + 1 = N
      · rw [if_pos hl]; exact fit_end hq _
      · have := hnl hl
        rw [if_neg hl]; exact fit_more hq _ (by omega)), got_touch hq _ _ (by omega) (by omega) (by omega) (by omega), Nat.min_self, show max (min (176 * (a + 1)) p.data.length) (min (176 * (a - i + 1)) p.data.length) = min (176 * (a + 1)) p.data.length from by omega]
    have hff : (if min (176 * (a - i + 1)) p.data.length < p.data.length then (if a + 1 = N then (p.data.length : Int) else -1) else ((min (176 * (a - i + 1)) p.data.length : Nat) : Int)) = (if a + 1 = N then (p.data.length : Int) else -1) := by
      by_cases hm : min (176 * (a - i + 1)) p.data.length < p.data.length
      · rw [if_pos hm]
      · have hl : a + 1 = N := by
          by_cases hl : a + 1 = N
          · exact hl
          · have := hnl hl
            omega
        rw [if_neg hm, if_pos hl, show min (176 * (a - i + 1)) p.data.length = p.data.length from by omega]
    rw [hff, step_open _ _ (by omega) (by omega) _ (by split <;> omega)]
  · have e1 : pcA N a i = N + a - i := by unfold pcA; rw [if_neg hia]
    rw [e1] at hq f8 f8' hnw ⊢
    obtain ⟨j, hj⟩ : ∃ j, N + a - i = j := ⟨_, rfl⟩
    rw [hj] at hq f8 f8' hnw ⊢
    have haj : 176 * (a + 1) < 176 * j := by omega
    have hjN : 176 * j ≤ 176 * (N - 1) := Nat.mul_le_mul_left _ (by omega)
    have e3 : stA p N a (i + 1) = [HH p [PP p.data 0 (176 * (a + 1)), PP p.data (176 * j) p.data.length] (p.data.length : Int)] := by
      unfold stA
      rw [if_neg (by omega), if_neg (by omega), show N + a + 1 - (i + 1) = j from by omega]
    rw [e3, add_next hq hn f8 f8' hnw _ _ (fit_end hq _), got_second hq _ _ _ _ (by omega) (by omega) haj (by omega) (Nat.le_refl _) (by omega) (by omega), step_two, Nat.min_self, Nat.max_eq_left (by omega)]
    by_cases hm : min (176 * (j + 1)) p.data.length < p.data.length
    · rw [if_pos hm]
    · rw [if_neg hm, show min (176 * (j + 1)) p.data.length = p.data.length from by omega]
end
end


set_option maxRecDepth 100000 in
/-- frag.Add, all that the laws want of it -/
theorem add_any (v : Value) (hs : List Hk) (cs : Array Value) (p : Pk) (lo hi now : Nat) (w : World) (hv : HksT w v hs) (hl : hs.length ≤ 8) (hgot : ∀ h ∈ hs, h.got.length < 1000) (hp : PkV w lo hi cs p) (hhi : hi ≤ w.heap.size) (h0 : 0 ≤ p.off) (he : endP p ≤ 1000) (hf : (p.off = 0 ∧ p.more = false) ∨ formedB p = true) (hn : now < 18446744073709551616) :
    Calls Try.prog 26 #[v, .agg cs, .int .u64 (now : Int)] w (AddPost w (addP hs p now)) := by
  by_cases h : p.off = 0 ∧ p.more = false
  · exact add_whole v hs cs p lo hi now w hv hl hp hhi h0 he hn h.1 h.2
  · exact add_part v hs cs p lo hi now w hv hl hp hhi h0 he hn hgot (hf.resolve_left h) h

structure PlanA (q : Pk) (N k : Nat) (st : Nat → List Hk) : Prop where
  zero : st 0 = []
  small : ∀ i, (st i).length ≤ 8 ∧ ∀ h ∈ st i, h.got.length < 1000
  new : ∀ i, i < N → addP (st i) (pieceP q (N - 1 - (i + k) % N)) 0 = if i + 1 = N then ([], q, true, 0) else (st (i + 1), Pk.zero, false, 0)
  twice : ∀ i, i + 1 < N → addP (st (i + 1)) (pieceP q (N - 1 - (i + k) % N)) 0 = (st (i + 1), Pk.zero, false, 0)
set_option maxRecDepth 100000 in
theorem pieces_bounds (n : Nat) : 0 < piecesN n ∧ n ≤ 176 * piecesN n ∧ (2 ≤ piecesN n → 176 * (piecesN n - 1) < n) ∧ (n ≤ 1000 → piecesN n ≤ 6) ∧ (176 < n → 2 ≤ piecesN n) ∧ (n ≤ 176 → piecesN n = 1) := by
  unfold piecesN
  split <;> omega
set_option maxRecDepth 100000 in
theorem plan_any (q : Pk) (hn : q.data.length ≤ 1000) (ho : q.off = 0) (hm : q.more = false) (k : Nat) (hk : k < piecesN q.data.length) : ∃ st, PlanA q (piecesN q.data.length) k st := by
  obtain ⟨b1, b2, b3, b4, b5, b6⟩ := pieces_bounds q.data.length
  generalize piecesN q.data.length = N at *
  by_cases h1 : N = 1
  · subst h1
    refine ⟨fun _ => [], rfl, fun i => ⟨Nat.zero_le _, fun h hh => by cases hh⟩, fun i hi => ?_, fun i hi => by omega⟩
    have hi0 : i = 0 := by omega
    subst hi0
    have hk0 : k = 0 := by omega
    subst hk0
    have hl : q.data.length ≤ 176 := by omega
    have hpc : pieceP q (1 - 1 - (0 + 0) % 1) = q := by
      show pieceP q 0 = q
      have e1 : decide (176 * (0 + 1) < q.data.length) = q.more := by rw [hm]; exact decide_eq_false (by omega)
      have e2 : ((176 * 0 : Nat) : Int) = q.off := by rw [ho]; rfl
      unfold pieceP
      rw [e1, e2, Nat.mul_zero, List.drop_zero, List.take_of_length_le hl]
    rw [hpc, if_pos rfl]
    unfold addP
    rw [if_neg (by unfold endP; rw [ho]; omega), if_pos ⟨ho, hm⟩]
    rfl
  · have hN : 2 ≤ N := by omega
    have hpi : ∀ i, i < N → N - 1 - (i + k) % N = pcA N (N - 1 - k) i := fun i hi => by
      unfold pcA
      by_cases hc : i + k < N
      · rw [Nat.mod_eq_of_lt hc, if_pos (by omega)]
        omega
      · rw [Nat.mod_eq_sub_mod (by omega), Nat.mod_eq_of_lt (by omega), if_neg (by omega)]
        omega
    refine ⟨stA q N (N - 1 - k), rfl, fun i => ⟨Nat.le_trans (stA_le _ _ _ _) (by decide), stA_got _ _ _ _⟩, fun i hi => ?_, fun i hi => ?_⟩
    · rw [hpi i hi]
      exact again_new hn (b3 hN) b2 hN (by omega) ho hm i hi
    · rw [hpi i (by omega)]
      exact again_twice hn (b3 hN) b2 hN (by omega) i hi
set_option maxRecDepth 100000 in
/-- what frag.Add asks of a piece -/
theorem piece_ok (q : Pk) (hn : q.data.length ≤ 1000) (m : Nat) (hm : m < piecesN q.data.length) : 0 ≤ (pieceP q m).off ∧ endP (pieceP q m) ≤ 1000 ∧ (((pieceP q m).off = 0 ∧ (pieceP q m).more = false) ∨ formedB (pieceP q m) = true) := by
  obtain ⟨b1, b2, b3, b4, b5, b6⟩ := pieces_bounds q.data.length
  by_cases h1 : q.data.length ≤ 176
  · have h2 := b6 h1
    have hm0 : m = 0 := by omega
    subst hm0
    refine ⟨by simp [pieceP], ?_, .inl ⟨by simp [pieceP], by simp [pieceP]; omega⟩⟩
    unfold endP pieceP
    simp only [List.length_take, List.length_drop]
    omega
  · have h2 := b5 (by omega)
    have h3 := b3 h2
    have hle : 176 * m ≤ 176 * (piecesN q.data.length - 1) := Nat.mul_le_mul_left _ (by omega)
    have hq := piece_is q m (by omega)
    refine ⟨by rw [hq.off]; omega, by rw [hq.fin]; omega, ?_⟩
    by_cases hnw : 176 * m = 0 ∧ min (176 * (m + 1)) q.data.length = q.data.length
    · omega
    · have := (conds hq hn (by omega) (by omega) hnw).2.2
      refine .inr ?_
      simpa using this
end Go.Proofs.Ytjgdmkmfnkaoaaa.F
