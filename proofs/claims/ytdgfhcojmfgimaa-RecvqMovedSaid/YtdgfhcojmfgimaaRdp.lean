/-
  What the code makes of a piece is what the document makes of it: Accept of the code's pieces. Plain mathematics. No condition.
-/
import Derived.Test.YtdgfhcojmfgimaaRdm
import Derived.Test.YtdgfhcojmfgimaaRdg
namespace Go.Proofs.Ytdgfhcojmfgimaa
open Go.RowKit

def mkP (nx : Int) (p : Rn) : Pc := ⟨addS nx p.1, p.2⟩
/-- the end, when it is told -/
def knowQ (q : Rq) (e : Bool) (b : Int) : Rq := if e = true ∧ q.known = false ∧ mayQ q b = true then { q with known := true, fin := b } else q
def overQ (q : Rq) : Rq := if q.known = true ∧ q.next = q.fin then { q with done := true, next := addS q.next 1 } else q
def gotQ (q : Rq) (p : Pc) : Rq := if 0 < p.data.length then settleQ q (layQ q.ahead p) else q
def acceptQ (q : Rq) (a : Int) (D : List UInt8) (e : Bool) : Rq := overQ (gotQ (knowQ q e (addS a D.length)) (wantQ (knowQ q e (addS a D.length)) a D))
/-- the code's state where the end is known to be there -/
def qf (x : Rx) (f : Int) : Rq := ⟨x.next, x.data, (runsL 0 x.got).map (mkP x.next), decide (0 ≤ f), if 0 ≤ f then addS x.next f else 0, false⟩
theorem conc_qf {x : Rx} (hd : x.done = false) : conc x = qf x x.fin := by
  unfold conc qf
  rw [hd]
  rfl
theorem got_le {x : Rx} (h : OkX x) : ∀ c ∈ x.got, c ≤ 255 := fun c hc => (h.bytes c hc).2
theorem run_end {l : List Int} {ps : List Rn} (h : GRuns l ps) {p : Rn} (hp : p ∈ ps) : p.1 + p.2.length ≤ l.length := by
  have h0 := h.pos hp
  obtain ⟨b, _, h2⟩ := h.at_ hp (i := p.1 + p.2.length - 1) (by omega) (by omega)
  have := (List.getElem?_eq_some_iff.1 h2).1
  omega
theorem diff_two (a nx : Int) (n : Nat) (hn : n ≤ 1000) : diffS (addS a n) nx = diffS a nx + n ∨ (diffS (addS a n) nx = diffS a nx + n - 4294967296 ∧ 2147483648 ≤ diffS a nx + n) := by
  unfold diffS addS
  omega
theorem diff_end {a nx : Int} {n o l : Nat} (h0 : 0 ≤ diffS a nx + n) (h1 : diffS a nx + n ≤ 256) (h2 : o + l ≤ 256) : diffS (addS a n) (addS (addS nx o) l) = diffS a nx + n - ((o : Int) + l) := by
  unfold diffS addS at *
  omega
theorem beyond_runs {l : List Int} {ps : List Rn} (h : GRuns l ps) {E : Int} (h0 : 0 ≤ E) : ps.any (fun p => decide (E < (p.1 : Int) + p.2.length)) = beyondX l E := by
  cases hb : beyondX l E with
  | true =>
    obtain ⟨i, c, h1, h2, h3⟩ := beyond_ex hb
    obtain ⟨p, hp, h4, h5⟩ := h.cov i c h2 h3
    exact List.any_eq_true.2 ⟨p, hp, decide_eq_true (by omega)⟩
  | false =>
    refine List.any_eq_false.2 fun p hp => ?_
    have hl := h.pos hp
    obtain ⟨b, _, h2⟩ := h.at_ hp (i := p.1 + p.2.length - 1) (by omega) (by omega)
    rw [decide_eq_true_eq]
    intro hlt
    have := beyond_false hb (i := p.1 + p.2.length - 1) (by omega) h2
    omega
theorem may_conc {x : Rx} (h : OkX x) (f : Int) (a : Int) (n : Nat) (hn : n ≤ 1000) : mayQ (qf x f) (addS a n) = decide (0 ≤ diffS a x.next + n ∧ diffS a x.next + n ≤ winX x ∧ beyondX x.got (diffS a x.next + n) = false) := by
  have hg := runs_g (got_le h)
  unfold mayQ qf
  simp only
  have hW : 256 - (x.data.length : Int) = winX x := rfl
  rw [hW]
  have hw : winX x ≤ 256 := by unfold winX; omega
  rcases diff_two a x.next n hn with h1 | ⟨h1, h2⟩
  · rw [h1]
    by_cases hin : 0 ≤ diffS a x.next + n ∧ diffS a x.next + n ≤ winX x
    · have he : ((runsL 0 x.got).map (mkP x.next)).any (beyQ (addS a n)) = beyondX x.got (diffS a x.next + n) := by
        rw [← beyond_runs hg hin.1, List.any_map]
        have hcg : ∀ p ∈ runsL 0 x.got, (beyQ (addS a n) ∘ mkP x.next) p = decide (diffS a x.next + n < (p.1 : Int) + p.2.length) := fun p hp => by
          have hl := run_end hg hp
          rw [h.got] at hl
          show beyQ (addS a n) (mkP x.next p) = _
          unfold beyQ mkP
          simp only
          rw [diff_end hin.1 (by omega) hl]
          congr 1
          apply propext
          omega
        have : ∀ (L : List Rn), (∀ p ∈ L, (beyQ (addS a n) ∘ mkP x.next) p = decide (diffS a x.next + n < (p.1 : Int) + p.2.length)) → L.any (beyQ (addS a n) ∘ mkP x.next) = L.any (fun p => decide (diffS a x.next + n < (p.1 : Int) + p.2.length)) := fun L hL => by
          induction L with
          | nil => rfl
          | cons y L ih => rw [List.any_cons, List.any_cons, hL y (List.mem_cons_self ..), ih fun p hp => hL p (List.mem_cons_of_mem _ hp)]
        exact this _ hcg
      rw [he, decide_eq_true hin]
      cases hb : beyondX x.got (diffS a x.next + n)
      · rw [decide_eq_true ⟨hin.1, hin.2, rfl⟩]; rfl
      · rw [decide_eq_false (fun h => by cases h.2.2)]; rfl
    · rw [decide_eq_false hin, decide_eq_false (fun h => hin ⟨h.1, h.2.1⟩)]; rfl
  · have := diff_lo17 a x.next
    rw [decide_eq_false (fun h3 => by omega), decide_eq_false (fun h3 => by omega)]; rfl
theorem know_conc {x : Rx} (h : OkX x) (hd : x.done = false) (a : Int) (n : Nat) (hn : n ≤ 1000) (e : Bool) : knowQ (conc x) e (addS a n) = qf x (finX x (diffS a x.next) n e) := by
  rw [conc_qf hd]
  unfold knowQ finX
  rw [may_conc h _ a n hn]
  have hk : (qf x x.fin).known = decide (0 ≤ x.fin) := rfl
  rw [hk]
  by_cases hc : e = true ∧ x.fin < 0 ∧ 0 ≤ diffS a x.next + n ∧ diffS a x.next + n ≤ winX x ∧ beyondX x.got (diffS a x.next + n) = false
  · obtain ⟨h1, h2, h3, h4, h5⟩ := hc
    have hA : e = true ∧ decide (0 ≤ x.fin) = false ∧ decide (0 ≤ diffS a x.next + n ∧ diffS a x.next + n ≤ winX x ∧ beyondX x.got (diffS a x.next + n) = false) = true := ⟨h1, decide_eq_false (by omega), decide_eq_true ⟨h3, h4, h5⟩⟩
    have hB : e = true ∧ x.fin < 0 ∧ 0 ≤ diffS a x.next + n ∧ diffS a x.next + n ≤ winX x ∧ beyondX x.got (diffS a x.next + n) = false := ⟨h1, h2, h3, h4, h5⟩
    rw [if_pos hA, if_pos hB]
    unfold qf
    rw [decide_eq_true h3, if_pos h3]
    have hfe : addS a n = addS x.next (diffS a x.next + n) := by unfold addS diffS; omega
    rw [hfe]
  · rw [if_neg hc, if_neg (fun h2 => hc ?_)]
    obtain ⟨h3, h4, h5⟩ := h2
    have h5 := of_decide_eq_true h5
    exact ⟨h3, by have := of_decide_eq_false h4; omega, h5.1, h5.2.1, h5.2.2⟩
/-- the piece that is wanted -/
theorem want_conc {x : Rx} (h : OkX x) {f : Int} (hf : f = -1 ∨ 0 ≤ f ∧ f ≤ winX x) {a : Int} (D : List UInt8) (hD : D.length ≤ 1000) :
    (wantQ (qf x f) a D = ⟨0, []⟩ ∧ layX x (diffS a x.next) D f = x.got) ∨ ∃ (s : Nat) (P : List UInt8), wantQ (qf x f) a D = mkP x.next (s, P) ∧ 0 < P.length ∧ P.length ≤ 256 ∧ Under x.got (layX x (diffS a x.next) D f) s P := by
  obtain ⟨d, hd⟩ : ∃ d, diffS a x.next = d := ⟨_, rfl⟩
  have hdb : -2147483648 ≤ d ∧ d ≤ 2147483647 := by rw [← hd]; exact diff_lo17 _ _
  obtain ⟨R, hR⟩ : ∃ R, roomQ (qf x f) = R := ⟨_, rfl⟩
  have hw : winX x ≤ 256 := by unfold winX; omega
  have hw0 : 0 ≤ winX x := by have := h.data; unfold winX; omega
  have hRR : R = if 0 ≤ f then f else winX x := by
    rw [← hR]
    unfold roomQ qf
    simp only
    rcases hf with hf | hf
    · rw [if_neg (by simp; omega), if_neg (by omega)]; rfl
    · rw [if_pos (by simpa using hf.1), if_pos hf.1, if_pos hf.1]
      have : diffS (addS x.next f) x.next = f := by
        obtain ⟨k, rfl⟩ := Int.eq_ofNat_of_zero_le hf.1
        exact diff_add (by omega)
      rw [this]
      show min (winX x) f = f
      omega
  have hRw : R ≤ winX x ∧ 0 ≤ R := by
    rw [hRR]
    split
    · rcases hf with hf | hf <;> omega
    · exact ⟨Int.le_refl _, hw0⟩
  have hlay : ∀ (i : Nat) c, layI x d D f i c = if c < 0 ∧ d ≤ i ∧ (i : Int) < d + D.length ∧ (i : Int) < R then (match D[((i : Int) - d).toNat]? with | some b => (b.toNat : Int) | none => c) else c := fun i c => by
    unfold layI
    have : (c < 0 ∧ d ≤ (i : Int) ∧ (i : Int) < d + D.length ∧ (i : Int) < winX x ∧ (f < 0 ∨ (i : Int) < f)) ↔ (c < 0 ∧ d ≤ i ∧ (i : Int) < d + D.length ∧ (i : Int) < R) := by
      rw [hRR]
      rcases hf with hf | hf
      · rw [if_neg (by omega)]
        exact ⟨fun h => ⟨h.1, h.2.1, h.2.2.1, h.2.2.2.1⟩, fun h => ⟨h.1, h.2.1, h.2.2.1, h.2.2.2, .inl (by omega)⟩⟩
      · rw [if_pos hf.1]
        exact ⟨fun h => ⟨h.1, h.2.1, h.2.2.1, by have := h.2.2.2.2; omega⟩, fun h => ⟨h.1, h.2.1, h.2.2.1, by omega, .inr h.2.2.2⟩⟩
    by_cases hc : c < 0 ∧ d ≤ (i : Int) ∧ (i : Int) < d + D.length ∧ (i : Int) < R
    · rw [if_pos hc, if_pos (this.2 hc)]
      cases D[((i : Int) - d).toNat]? <;> rfl
    · rw [if_neg hc, if_neg (fun h => hc (this.1 h))]
  have hfr : fromW (qf x f) a = max 0 (-d) := by unfold fromW; show max 0 (-diffS a x.next) = _; rw [hd]
  have hto : toW (qf x f) a D = min (D.length : Int) (R - d) := by unfold toW; rw [hR]; show min _ (R - diffS a x.next) = _; rw [hd]
  rw [hd]
  unfold wantQ
  rw [hfr, hto]
  by_cases hc : min (D.length : Int) (R - d) ≤ max 0 (-d)
  · left
    rw [if_pos hc]
    refine ⟨rfl, List.ext_getElem? fun i => ?_⟩
    rw [lay_get]
    cases hi : x.got[i]? with
    | none => rfl
    | some c => rw [Option.map_some, hlay, if_neg (fun h => by omega)]
  · right
    rw [if_neg hc]
    obtain ⟨fr, hfrN⟩ := Int.eq_ofNat_of_zero_le (show 0 ≤ max 0 (-d) by omega)
    obtain ⟨to', htoN⟩ := Int.eq_ofNat_of_zero_le (show 0 ≤ min (D.length : Int) (R - d) by omega)
    obtain ⟨s, hs⟩ := Int.eq_ofNat_of_zero_le (show 0 ≤ d + max 0 (-d) by omega)
    have hl : (pieceX D fr to').length = to' - fr := piece_len (by omega) (by omega)
    have hg256 := h.got
    refine ⟨s, pieceX D fr to', ?_, by omega, by omega, ⟨by rw [lay_len], fun i c hi h0 => ?_, fun i c b hi h0 h1 hb => ?_, fun i c hi h0 => ?_, by omega⟩⟩
    · rw [hfrN, htoN]
      unfold mkP
      simp only [Int.toNat_natCast]
      congr 1
      rw [← hfrN]
      have : (s : Int) = d + max 0 (-d) := hs.symm
      rw [this, ← hd]
      unfold addS diffS
      omega
    · rw [lay_get, hi, Option.map_some, layI_keep h0]
    · have hb1 := (List.getElem?_eq_some_iff.1 hb).1
      rw [piece_get (by omega) (by omega) _ hb1] at hb
      rw [lay_get, hi, Option.map_some, hlay, if_pos (by omega), show ((i : Int) - d).toNat = fr + (i - s) from by omega, hb]
    · rw [lay_get] at hi
      obtain ⟨c0, h1, h2⟩ := Option.map_eq_some_iff.1 hi
      rw [hlay] at h2
      split at h2
      · rename_i h3
        exact .inr (by omega)
      · exact .inl (by rw [h1, h2])
/-- lay of the code's pieces -/
theorem lay_conc {nx : Int} {ps : List Rn} {s : Nat} {P : List UInt8} (hps : ∀ p ∈ ps, p.1 + p.2.length ≤ 256) (hs : s ≤ 256) : layQ (ps.map (mkP nx)) (mkP nx (s, P)) = (layN ps s P).map (mkP nx) := by
  have hoff : ∀ p : Rn, p.1 ≤ 256 → offQ (mkP nx (s, P)) (mkP nx p) = (p.1 : Int) - s := fun p hp => by
    unfold offQ mkP
    simp only
    unfold diffS addS
    omega
  have hbe : ∀ p ∈ ps, (behindQ (mkP nx (s, P)) ∘ mkP nx) p = behindN s P p := fun p hp => by
    have := hps p hp
    show behindQ (mkP nx (s, P)) (mkP nx p) = _
    unfold behindQ behindN
    rw [hoff p (by omega)]
    congr 1
    apply propext
    show (P.length : Int) < _ ↔ _
    omega
  have hah0 : ∀ p ∈ ps, decide (endQ (mkP nx (s, P)) (mkP nx p) < 0) = aheadN s p := fun p hp => by
    have := hps p hp
    unfold endQ aheadN
    rw [hoff p (by omega)]
    congr 1
    apply propext
    show (p.1 : Int) - s + (p.2.length : Int) < 0 ↔ _
    omega
  have hah : ∀ p ∈ ps, (aheadQ (mkP nx (s, P)) ∘ mkP nx) p = aheadN s p := fun p hp => by
    have h1 := hbe p hp
    have h2 := hah0 p hp
    show aheadQ (mkP nx (s, P)) (mkP nx p) = _
    unfold aheadQ
    rw [h2, show behindQ (mkP nx (s, P)) (mkP nx p) = behindN s P p from h1]
    unfold aheadN behindN
    by_cases h3 : p.1 + p.2.length < s
    · rw [decide_eq_true h3, decide_eq_false (by omega)]; rfl
    · rw [decide_eq_false h3, Bool.and_false]
  have hto : ∀ p ∈ ps, (touchQ (mkP nx (s, P)) ∘ mkP nx) p = touchN s P p := fun p hp => by
    have h1 := hbe p hp
    have h2 := hah0 p hp
    show touchQ (mkP nx (s, P)) (mkP nx p) = _
    unfold touchQ touchN
    rw [h2, show behindQ (mkP nx (s, P)) (mkP nx p) = behindN s P p from h1]
  have fil : ∀ (f : Pc → Bool) (g : Rn → Bool), (∀ p ∈ ps, (f ∘ mkP nx) p = g p) → (ps.map (mkP nx)).filter f = (ps.filter g).map (mkP nx) := fun f g hfg => by
    rw [List.filter_map]
    congr 1
    exact List.filter_congr hfg
  have hT : ∀ p ∈ ps.filter (touchN s P), p.1 ≤ 256 := fun p hp => by have := hps p (List.mem_filter.1 hp).1; omega
  have hfrom : fromQ (mkP nx (s, P)) (ps.map (mkP nx)) = (fromN s P ps : Int) - s := by
    unfold fromQ fromN
    rw [fil _ _ hto, List.foldl_map]
    have : ∀ (T : List Rn) (z : Nat), (∀ p ∈ T, p.1 ≤ 256) → T.foldl (fun a t => min a (offQ (mkP nx (s, P)) (mkP nx t))) ((z : Int) - s) = ((T.foldl (fun a t => min a t.1) z : Nat) : Int) - s := fun T => by
      induction T with
      | nil => intro z _; rfl
      | cons t T ih =>
        intro z hz
        rw [List.foldl_cons, List.foldl_cons, hoff t (hz t (List.mem_cons_self ..)), show min ((z : Int) - s) ((t.1 : Int) - s) = ((min z t.1 : Nat) : Int) - s from by omega]
        exact ih _ fun p hp => hz p (List.mem_cons_of_mem _ hp)
    have := this _ s hT
    rw [Int.sub_self] at this
    exact this
  have hton : toQ (mkP nx (s, P)) (ps.map (mkP nx)) = (toN s P ps : Int) - s := by
    unfold toQ toN
    rw [fil _ _ hto, List.foldl_map]
    have : ∀ (T : List Rn) (z : Nat), (∀ p ∈ T, p.1 ≤ 256) → T.foldl (fun a t => max a (endQ (mkP nx (s, P)) (mkP nx t))) ((z : Int) - s) = ((T.foldl (fun a t => max a (t.1 + t.2.length)) z : Nat) : Int) - s := fun T => by
      induction T with
      | nil => intro z _; rfl
      | cons t T ih =>
        intro z hz
        have he : endQ (mkP nx (s, P)) (mkP nx t) = (t.1 : Int) - s + t.2.length := by unfold endQ; rw [hoff t (hz t (List.mem_cons_self ..))]; rfl
        rw [List.foldl_cons, List.foldl_cons, he, show max ((z : Int) - s) ((t.1 : Int) - s + t.2.length) = ((max z (t.1 + t.2.length) : Nat) : Int) - s from by omega]
        exact ih _ fun p hp => hz p (List.mem_cons_of_mem _ hp)
    have := this _ (s + P.length) hT
    rw [show ((s + P.length : Nat) : Int) - s = P.length from by omega] at this
    exact this
  obtain ⟨f1, f2, _⟩ := fold_min (f := fun t => t.1) (ps.filter (touchN s P)) s
  obtain ⟨e1, _, _⟩ := fold_max (f := fun t => t.1 + t.2.length) (ps.filter (touchN s P)) (s + P.length)
  have f1 : fromN s P ps ≤ s := f1
  have e1 : s + P.length ≤ toN s P ps := e1
  have hjoin : joinQ (mkP nx (s, P)) (ps.map (mkP nx)) = joinN s P ps := by
    unfold joinQ joinN
    rw [fil _ _ hto, List.foldl_map, hfrom, hton, show ((toN s P ps : Int) - s - ((fromN s P ps : Int) - s)).toNat = toN s P ps - fromN s P ps from by omega, show (-((fromN s P ps : Int) - s)).toNat = s - fromN s P ps from by omega]
    have : ∀ (T : List Rn) (z : List UInt8), (∀ p ∈ T, p.1 ≤ 256) → T.foldl (fun a t => over a (offQ (mkP nx (s, P)) (mkP nx t) - ((fromN s P ps : Int) - s)).toNat (mkP nx t).data) z = T.foldl (fun a t => over a (t.1 - fromN s P ps) t.2) z := fun T => by
      induction T with
      | nil => intro z _; rfl
      | cons t T ih =>
        intro z hz
        rw [List.foldl_cons, List.foldl_cons, hoff t (hz t (List.mem_cons_self ..)), show ((t.1 : Int) - s - ((fromN s P ps : Int) - s)).toNat = t.1 - fromN s P ps from by omega]
        exact ih _ fun p hp => hz p (List.mem_cons_of_mem _ hp)
    exact this _ _ hT
  unfold layQ layN
  rw [List.map_append, List.map_append, fil _ _ hah, fil _ _ hbe, hfrom, hjoin]
  congr 2
  show [(⟨addS (addS nx s) ((fromN s P ps : Int) - s), joinN s P ps⟩ : Pc)] = [⟨addS nx (fromN s P ps), joinN s P ps⟩]
  congr 2
  unfold addS
  omega
/-- the runs, with the front taken -/
theorem runs_front {l : List Int} (hb : ∀ c ∈ l, c ≤ 255) {o : Nat} {d : List UInt8} {r : List Rn} (hr : runsL 0 l = (o, d) :: r) :
    (o = 0 → frontL l = d ∧ ∀ (z : Int), z ≤ 255 → z < 0 → runsL 0 (l.drop d.length ++ List.replicate d.length z) = r.map (fun p => (p.1 - d.length, p.2))) ∧ (o ≠ 0 → frontL l = []) := by
  have hg := runs_g hb
  rw [hr] at hg
  have hm := List.mem_cons_self (a := ((o, d) : Rn)) (l := r)
  have hd0 := hg.pos hm
  simp only at hd0
  obtain ⟨ht1, ht2⟩ := hg.tail
  refine ⟨fun h0 => ?_, fun h0 => ?_⟩
  · subst h0
    have hlen : (frontL l).length = d.length := by
      refine Nat.le_antisymm ?_ (front_ge (by have := run_end hg hm; simp only at this; omega) fun i c hi hc => ?_)
      · rcases Nat.lt_or_ge d.length (frontL l).length with hlt | hge
        · obtain ⟨c, h1, h2, _⟩ := front_get hlt
          have := hg.stop hm (c := c) (by simpa using h1)
          omega
        · exact hge
      · obtain ⟨b, _, h2⟩ := hg.at_ hm (i := i) (Nat.zero_le _) (by simpa using hi)
        rw [hc] at h2
        injection h2 with h2
        omega
    refine ⟨List.ext_getElem? fun i => ?_, fun z hz hz0 => ?_⟩
    · rcases Nat.lt_or_ge i d.length with hi | hi
      · obtain ⟨c, h1, _, h3⟩ := front_get (l := l) (i := i) (by omega)
        obtain ⟨b, h4, h5⟩ := hg.at_ hm (i := i) (Nat.zero_le _) (by simpa using hi)
        rw [h1] at h5
        injection h5 with h5
        rw [h3, h5, byteOf_nat]
        simpa using h4.symm
      · rw [List.getElem?_eq_none (by omega), List.getElem?_eq_none hi]
    · have hb2 : ∀ c ∈ l.drop d.length ++ List.replicate d.length z, c ≤ 255 := fun c hc => by
        rcases List.mem_append.1 hc with hc | hc
        · exact hb c (List.mem_of_mem_drop hc)
        · have := List.eq_of_mem_replicate hc; omega
      have hget : ∀ (i : Nat), i + d.length < l.length → (l.drop d.length ++ List.replicate d.length z)[i]? = l[i + d.length]? := fun i hi => by
        rw [List.getElem?_append_left (by rw [List.length_drop]; omega), List.getElem?_drop, Nat.add_comm]
      refine gruns_unique (runs_g hb2) ⟨?_, fun p hp => ?_, fun p hp k b hk => ?_, fun i c hi h0 => ?_⟩
      · rw [List.pairwise_map]
        refine ht2.imp_of_mem fun {p q} hp hq hpq => ?_
        have := ht1 p hp
        have := ht1 q hq
        simp only
        omega
      · obtain ⟨p', hp', rfl⟩ := List.mem_map.1 hp
        exact hg.ne p' (List.mem_cons_of_mem _ hp')
      · obtain ⟨p', hp', rfl⟩ := List.mem_map.1 hp
        have h1 := ht1 p' hp'
        have hv := hg.val p' (List.mem_cons_of_mem _ hp') k b hk
        have := (List.getElem?_eq_some_iff.1 hv).1
        simp only
        rw [hget _ (by omega), show p'.1 - d.length + k + d.length = p'.1 + k from by omega]
        exact hv
      · have hil : i + d.length < l.length := by
          rcases Nat.lt_or_ge (i + d.length) l.length with h1 | h1
          · exact h1
          · rw [List.getElem?_append_right (by rw [List.length_drop]; omega), List.getElem?_replicate] at hi
            split at hi
            · injection hi with hi; omega
            · cases hi
        rw [hget i hil] at hi
        obtain ⟨p, hp, h1, h2⟩ := hg.cov _ _ hi h0
        rcases List.mem_cons.1 hp with rfl | hp
        · simp only at h2; omega
        · have h3 := ht1 p hp
          exact ⟨_, List.mem_map.2 ⟨p, hp, rfl⟩, by simp only; omega, by simp only; omega⟩
  · refine List.eq_nil_of_length_eq_zero ?_
    rcases Nat.eq_zero_or_pos (frontL l).length with h1 | h1
    · exact h1
    · obtain ⟨c, h2, h3, _⟩ := front_get h1
      obtain ⟨p, hp, h4, _⟩ := hg.cov _ _ h2 h3
      rcases List.mem_cons.1 hp with rfl | hp
      · simp only at h4; omega
      · have := ht1 p hp; omega
/-- settle of the code's pieces -/
theorem settle_conc {x : Rx} (h : OkX x) (hd : x.done = false) {g : List Int} {f : Int} (hgl : g.length = 256) (hgb : ∀ c ∈ g, c ≤ 255) (hff : 0 ≤ f → ((frontL g).length : Int) ≤ f) {p : Rn} {r : List Rn} (hr : runsL 0 g = p :: r) : settleQ (qf x f) ((runsL 0 g).map (mkP x.next)) = conc (takeX x g f) := by
  obtain ⟨o, d⟩ := p
  have hG := runs_g hgb
  have hm : ((o, d) : Rn) ∈ runsL 0 g := by rw [hr]; exact List.mem_cons_self ..
  have hoe := run_end hG hm
  have hd0 := hG.pos hm
  simp only [hgl] at hoe hd0
  have hcnt := runs_count g 0
  obtain ⟨h1, h2⟩ := runs_front hgb hr
  have hnx := h.next
  rw [hr, List.map_cons, settle_cons]
  have hx : (mkP x.next (o, d)).seq = (qf x f).next ↔ o = 0 := by
    show addS x.next o = x.next ↔ _
    have h3 := hnx.1
    have h4 := hnx.2
    unfold addS
    omega
  by_cases h0 : o = 0
  · obtain ⟨h3, h4⟩ := h1 h0
    subst h0
    rw [if_pos (hx.2 rfl)]
    unfold takeX
    have hne : frontL g ≠ [] := by rw [h3]; exact List.length_pos_iff.1 hd0
    rw [if_pos (.inl hne), h3]
    rw [h3] at hff
    unfold conc qf
    simp only
    rw [hd, h4 (-1) (by decide) (by decide), List.map_map]
    have hft : ∀ q ∈ r, mkP x.next q = ((fun p : Rn => (⟨addS (addS x.next d.length) p.1, p.2⟩ : Pc)) ∘ fun p : Rn => (p.1 - d.length, p.2)) q := fun q hq => by
      have hG2 := hG
      rw [hr] at hG2
      have h5 := hG2.tail.1 q hq
      show (⟨addS x.next q.1, q.2⟩ : Pc) = ⟨addS (addS x.next d.length) ((q.1 - d.length : Nat) : Int), q.2⟩
      congr 1
      unfold addS
      omega
    rw [List.map_congr_left hft]
    by_cases hf0 : 0 ≤ f
    · have := hff hf0
      simp only [if_pos hf0, decide_eq_true hf0]
      rw [if_pos (show 0 ≤ f - (d.length : Int) by omega), decide_eq_true (show 0 ≤ f - (d.length : Int) by omega)]
      have : addS (addS x.next d.length) (f - d.length) = addS x.next f := by unfold addS; omega
      rw [this]
      rfl
    · simp only [if_neg hf0, decide_eq_false hf0]
      rfl
  · rw [if_neg (fun e => h0 (hx.1 e))]
    have hfn := h2 h0
    have hlen : r.length + 1 = runsN g := by
      have : (runsL 0 g).length = r.length + 1 := by rw [hr]; rfl
      rw [← this, hcnt]
      cases hgc : g with
      | nil => rw [hgc] at hgl; simp at hgl
      | cons c l =>
        simp only
        have hc0 : c < 0 := by
          rcases Int.lt_or_le c 0 with h5 | h5
          · exact h5
          · obtain ⟨d', r', h6⟩ := (runs_first g 0).1 c l hgc h5
            rw [hr] at h6
            injection h6 with h6
            injection h6 with h6
            exact absurd h6 h0
        rw [if_neg (by omega)]
        rfl
    rw [List.length_map, hlen]
    unfold takeX
    rw [hfn]
    by_cases h8 : runsN g ≤ 8
    · rw [if_pos h8, if_pos (.inr h8)]
      unfold conc qf
      simp only [List.length_nil, List.drop_zero, List.replicate_zero, List.append_nil]
      rw [hd, hr]
      have e0 : addS x.next ((0 : Nat) : Int) = x.next := add_zero' hnx
      rw [e0]
      by_cases hf0 : 0 ≤ f
      · simp only [if_pos hf0, decide_eq_true hf0]
        rw [if_pos (show 0 ≤ f - ((0 : Nat) : Int) by omega), decide_eq_true (show 0 ≤ f - ((0 : Nat) : Int) by omega), show f - ((0 : Nat) : Int) = f from by omega]
        rfl
      · simp only [if_neg hf0, decide_eq_false hf0]
        rfl
    · rw [if_neg h8, if_neg (fun h => by rcases h with h | h; exact h rfl; exact h8 h)]
      unfold conc qf
      simp only
      rw [hd]
      rfl
theorem front_none {x : Rx} (h : OkX x) : frontL x.got = [] := by
  refine List.eq_nil_of_length_eq_zero ?_
  rcases Nat.eq_zero_or_pos (frontL x.got).length with h1 | h1
  · exact h1
  · obtain ⟨c, h2, h3, _⟩ := front_get h1
    have := h.front c h2
    omega
theorem lay_le {x : Rx} (h : OkX x) (d : Int) (D : List UInt8) (f : Int) : ∀ c ∈ layX x d D f, c ≤ 255 := fun c hc => by
  obtain ⟨i, hi⟩ := List.getElem?_of_mem hc
  rw [lay_get] at hi
  obtain ⟨c0, h1, h2⟩ := Option.map_eq_some_iff.1 hi
  have h3 := got_le h c0 (List.mem_of_getElem? h1)
  rw [← h2]
  unfold layI
  split
  · cases D[((i : Int) - d).toNat]? with
    | none => exact h3
    | some b => have := b.toNat_lt; simp only; omega
  · exact h3
theorem over_conc {y : Rx} (hn : U32 y.next) (hd : y.done = false) (hf : y.fin = -1 ∨ 0 ≤ y.fin ∧ y.fin ≤ 256) (hok : OkX (endX y)) : overQ (conc y) = conc (endX y) := by
  have h1 := hn.1
  have h2 := hn.2
  unfold overQ endX
  have hk : (conc y).known = decide (0 ≤ y.fin) := rfl
  have hx : (conc y).next = y.next := rfl
  have hff : (conc y).fin = if 0 ≤ y.fin then addS y.next y.fin else 0 := by unfold conc; simp only; rw [hd]; rfl
  rw [hk, hx, hff]
  by_cases h0 : y.fin = 0
  · have hc : decide (0 ≤ y.fin) = true ∧ y.next = if 0 ≤ y.fin then addS y.next y.fin else 0 := ⟨decide_eq_true (by omega), by rw [if_pos (by omega), h0, add_zero' hn]⟩
    have hno : runsL 0 y.got = [] := runs_none _ _ fun c hcm => by
      obtain ⟨i, hi⟩ := List.getElem?_of_mem hcm
      have h5 := hok.ahead
      unfold endX at h5
      rw [if_pos h0] at h5
      rcases Int.lt_or_le c 0 with h6 | h6
      · exact h6
      · have := h5 (by simp only; omega) i c hi h6
        simp only at this
        omega
    rw [if_pos hc, if_pos h0]
    unfold conc
    simp only [h0, hno, List.map_nil, Int.le_refl, decide_true, if_true]
    have e1 : addS (addS y.next 1) (-1) = addS y.next 0 := by unfold addS; omega
    simp [e1]
  · have hc : ¬ (decide (0 ≤ y.fin) = true ∧ y.next = if 0 ≤ y.fin then addS y.next y.fin else 0) := fun ⟨h3, h4⟩ => by
      have h3 := of_decide_eq_true h3
      rw [if_pos h3] at h4
      unfold addS at h4
      omega
    rw [if_neg hc, if_neg h0]
theorem runs_len {x : Rx} (h : OkX x) : (runsL 0 x.got).length ≤ 9 := by
  have h1 := runs_count x.got 0
  have h2 := h.runs
  generalize x.got = l at h1 h2 ⊢
  rw [h1]
  cases l with
  | nil => simp only; omega
  | cons c l => simp only; split <;> omega
/-- what the code's calls are handed, and what they make of it -/
theorem accept_conc {x : Rx} (h : OkX x) (hd : x.done = false) {a : Int} (D : List UInt8) (hD : D.length ≤ 1000) (e : Bool) {q1 : Rq} {p : Pc} (hq1 : knowQ (conc x) e (addS a D.length) = q1) (hp : wantQ q1 a D = p) :
    overQ (gotQ q1 p) = conc (acceptX x a D e) ∧ q1.data = x.data ∧ q1.ahead = (conc x).ahead ∧ p.data.length ≤ 256 ∧ (0 < p.data.length → (∀ t ∈ q1.ahead, -1000 ≤ offQ p t ∧ offQ p t ≤ 1000 ∧ 0 < t.data.length ∧ t.data.length ≤ 1000) ∧ ∃ p0 r, layQ q1.ahead p = p0 :: r ∧ 0 < p0.data.length ∧ p0.data.length ≤ 1000 ∧ r.length ≤ 999) := by
  obtain ⟨f, hf⟩ : ∃ f, finX x (diffS a x.next) D.length e = f := ⟨_, rfl⟩
  have hk := know_conc h hd a D.length hD e
  rw [hf] at hk
  rw [hk] at hq1
  subst hq1
  obtain ⟨hfo, hfa⟩ := fin_ok h (diffS a x.next) D.length e
  rw [hf] at hfo hfa
  have hac : acceptX x a D e = endX (takeX x (layX x (diffS a x.next) D f) f) := by
    unfold acceptX
    rw [if_neg (by simp [hd]), hf]
  rw [hac]
  have hfw := front_win h (d := diffS a x.next) (D := D) hfa
  have hW : winX x ≤ 256 := by unfold winX; omega
  have hend : overQ (conc (takeX x (layX x (diffS a x.next) D f) f)) = conc (endX (takeX x (layX x (diffS a x.next) D f) f)) := by
    obtain ⟨k, hk⟩ : ∃ k, (frontL (layX x (diffS a x.next) D f)).length = k := ⟨_, rfl⟩
    rw [hk] at hfw
    refine over_conc ?_ ?_ ?_ (take_ok h hd hfo hfa)
    · unfold takeX
      split
      · exact ⟨addS_ge _ _, addS_le _ _⟩
      · exact h.next
    · unfold takeX
      split <;> exact hd
    · unfold takeX
      split
      · simp only [hk]
        split
        · rename_i h0
          have := hfw.2 h0
          rcases hfo with h1 | h1 <;> omega
        · rcases hfo with h1 | h1 <;> omega
      · simp only
        rcases hfo with h1 | h1 <;> omega
  have hgl : (layX x (diffS a x.next) D f).length = 256 := by rw [lay_len, h.got]
  have hgr := runs_g (got_le h)
  have hrl := runs_len h
  rcases want_conc h hfo (a := a) D hD with ⟨h1, h2⟩ | ⟨s, P, h1, h2, h3, h4⟩
  · rw [h1] at hp
    subst hp
    have hg : gotQ (qf x f) ⟨0, []⟩ = conc (takeX x (layX x (diffS a x.next) D f) f) := by
      rw [h2]
      unfold gotQ takeX
      rw [if_neg (by simp), front_none h, if_pos (.inr h.runs)]
      unfold conc qf
      simp only [List.length_nil, List.drop_zero, List.replicate_zero, List.append_nil]
      rw [hd, show addS x.next ((0 : Nat) : Int) = x.next from add_zero' h.next]
      by_cases hf0 : 0 ≤ f
      · simp only [if_pos hf0, decide_eq_true hf0]
        rw [if_pos (show 0 ≤ f - ((0 : Nat) : Int) by omega), decide_eq_true (show 0 ≤ f - ((0 : Nat) : Int) by omega), show f - ((0 : Nat) : Int) = f from by omega]
        rfl
      · simp only [if_neg hf0, decide_eq_false hf0]
        rfl
    rw [hg]
    exact ⟨hend, rfl, rfl, Nat.zero_le _, fun h => by simp at h⟩
  · rw [h1] at hp
    subst hp
    have hps : ∀ p ∈ runsL 0 x.got, p.1 + p.2.length ≤ 256 := fun p hp => by have := run_end hgr hp; rw [h.got] at this; exact this
    have hsl : s ≤ 256 := by have := h4.fit; rw [h.got] at this; omega
    have hl := lay_conc (nx := x.next) (P := P) hps hsl
    have hgn := lay_runs hgr h4 h2
    have hgb := lay_le h (diffS a x.next) D f
    have hun := gruns_unique hgn (runs_g hgb)
    have hah : (qf x f).ahead = (runsL 0 x.got).map (mkP x.next) := rfl
    rw [hah, hl, hun]
    obtain ⟨p0, r, hr⟩ : ∃ p0 r, runsL 0 (layX x (diffS a x.next) D f) = p0 :: r := by
      rw [← hun]
      unfold layN
      cases hfl : (runsL 0 x.got).filter (aheadN s) with
      | nil => exact ⟨_, _, rfl⟩
      | cons y l => exact ⟨_, _, rfl⟩
    have hrlen : r.length + 1 ≤ 19 := by
      have : (layN (runsL 0 x.got) s P).length = r.length + 1 := by rw [hun, hr]; rfl
      rw [← this]
      unfold layN
      rw [List.length_append, List.length_append, List.length_singleton]
      have a1 := List.length_filter_le (aheadN s) (runsL 0 x.got)
      have a2 := List.length_filter_le (behindN s P) (runsL 0 x.got)
      omega
    have hG2 := runs_g hgb
    have hm : p0 ∈ runsL 0 (layX x (diffS a x.next) D f) := by rw [hr]; exact List.mem_cons_self ..
    have hpe := run_end hG2 hm
    have hpp := hG2.pos hm
    have hgot : gotQ (qf x f) (mkP x.next (s, P)) = conc (takeX x (layX x (diffS a x.next) D f) f) := by
      unfold gotQ
      rw [if_pos (show 0 < (mkP x.next (s, P)).data.length from h2), hah, hl, hun]
      exact settle_conc h hd hgl hgb hfw.2 hr
    rw [hgot]
    refine ⟨hend, rfl, rfl, h3, fun _ => ⟨fun t ht => ?_, mkP x.next p0, r.map (mkP x.next), by rw [hr]; rfl, hpp, by show p0.2.length ≤ 1000; omega, by rw [List.length_map]; omega⟩⟩
    obtain ⟨t0, ht0, rfl⟩ := List.mem_map.1 ht
    have b1 := hps t0 ht0
    have b2 := hgr.pos ht0
    have b3 : offQ (mkP x.next (s, P)) (mkP x.next t0) = (t0.1 : Int) - s := by
      unfold offQ mkP
      simp only
      unfold diffS addS
      omega
    rw [b3]
    exact ⟨by omega, by omega, b2, by show t0.2.length ≤ 1000; omega⟩
end Go.Proofs.Ytdgfhcojmfgimaa
