/-
  What ring's calls answer, for right rings as their frames tell of them. No condition beyond that.
-/
import Derived.Test.YtdbiledmokldjaaQuiR
namespace Go.Proofs.Ytdbiledmokldjaa
open Go.RowKit

section
variable {x : Rn} {S : List Fr} {n p t d : Nat}
theorem Rn.p_lt (x : Rn) : x.p < 65536 := Nat.mod_lt _ (by omega)
theorem Rn.t_lt (x : Rn) : x.t < 65536 := Nat.mod_lt _ (by omega)
theorem Rn.d_lt (x : Rn) : x.d < 65536 := Nat.mod_lt _ (by omega)
theorem post_x (hx : x.Ok) (hl : Lies x.n x.r x.all S) (f : Fr) :
    (postX x f).1.n = x.n ∧ Lies x.n (postX x f).1.r (postX x f).1.all (postN x.n S x.p x.len f).1 ∧ (postX x f).1.p = (postN x.n S x.p x.len f).2.1 ∧ (postX x f).1.t = x.t ∧ (postX x f).1.d = x.d ∧ (postX x f).1.r = x.r ∧ (postX x f).2 = (postN x.n S x.p x.len f).2.2 := by
  unfold postX postN
  by_cases q0 : 214 < f.length
  · rw [if_pos q0, if_pos q0]
    exact ⟨rfl, hl, rfl, rfl, rfl, rfl, rfl⟩
  · rw [if_neg q0, if_neg q0]
    by_cases q : x.len = x.n
    · rw [if_pos q, if_pos q]
      exact ⟨rfl, hl, rfl, rfl, rfl, rfl, rfl⟩
    · rw [if_neg q, if_neg q]
      refine ⟨rfl, ?_, ?_, rfl, rfl, rfl, rfl⟩
      · have := hl.post hx.may (by rw [x.all_length]; have := hx.le; omega) f
        rw [x.all_length] at this
        have e : (x.post f).all = x.all ++ [f] := by simp [Rn.post, Rn.all]
        show Lies x.n x.r (x.post f).all (S.set (x.p % x.n) f)
        rw [e, Rn.p, mod_big0 hx.may]
        exact this
      · show (x.r + (x.post f).len) % 65536 = ((x.r + x.len) % 65536 + 1) % 65536
        have : (x.post f).len = x.len + 1 := by simp [Rn.post, Rn.len]; omega
        rw [this]
        omega
theorem lies_at (hx : x.Ok) (hl : Lies x.n x.r x.all S) {i : Nat} {f : Fr} (hi : x.all[i]? = some f) {c : Nat} (hc : c = (x.r + i) % 65536) : S[c % x.n]? = some f := by
  rw [hc, mod_big0 hx.may]
  exact hl.full i f hi
theorem take_x (hx : x.Ok) (hl : Lies x.n x.r x.all S) :
    (takeX x).1.n = x.n ∧ (takeX x).1.r = x.r ∧ (takeX x).1.all = x.all ∧ (takeX x).1.p = x.p ∧ (takeX x).1.t = (takeN x.n S x.t x.P.length).1 ∧ (takeX x).1.d = x.d ∧ (takeX x).2.1 = (takeN x.n S x.t x.P.length).2.1 ∧ (takeX x).2.2 = (takeN x.n S x.t x.P.length).2.2 := by
  obtain ⟨n, r, D, T, P⟩ := x
  cases P with
  | nil => exact ⟨rfl, rfl, rfl, rfl, rfl, rfl, rfl, rfl⟩
  | cons f P =>
    have h := lies_at hx hl (i := D.length + T.length) (f := f) (c := Rn.t ⟨n, r, D, T, f :: P⟩) (by simp [Rn.all]) rfl
    unfold takeN
    rw [if_neg (by simp), h]
    refine ⟨rfl, rfl, by simp [takeX, Rn.all], ?_, ?_, rfl, rfl, rfl⟩
    · simp only [takeX, Rn.p, Rn.len, List.length_append, List.length_cons, List.length_nil]
      omega
    · simp only [takeX, Rn.t, List.length_append, List.length_cons, List.length_nil]
      omega
theorem fin_x : (finX x).1.n = x.n ∧ (finX x).1.r = x.r ∧ (finX x).1.all = x.all ∧ (finX x).1.p = x.p ∧ (finX x).1.t = x.t ∧ (finX x).1.d = (finN x.d x.T.length).1 ∧ (finX x).2 = (finN x.d x.T.length).2 := by
  obtain ⟨n, r, D, T, P⟩ := x
  cases T with
  | nil => exact ⟨rfl, rfl, rfl, rfl, rfl, rfl, rfl⟩
  | cons f T =>
    unfold finN
    rw [if_neg (by simp)]
    refine ⟨rfl, rfl, by simp [finX, Rn.all], ?_, ?_, ?_, rfl⟩
    · simp only [finX, Rn.p, Rn.len, List.length_append, List.length_cons, List.length_nil]
      omega
    · simp only [finX, Rn.t, List.length_append, List.length_cons, List.length_nil]
      omega
    · simp only [finX, Rn.d, List.length_append, List.length_cons, List.length_nil]
      omega
theorem reap_x (hx : x.Ok) (hl : Lies x.n x.r x.all S) :
    (reapX x).1.n = x.n ∧ Lies x.n (reapX x).1.r (reapX x).1.all (reapN x.n S x.r x.D.length).1 ∧ (reapX x).1.r = (reapN x.n S x.r x.D.length).2.1 ∧ (reapX x).1.p = x.p ∧ (reapX x).1.t = x.t ∧ (reapX x).1.d = x.d ∧ (reapX x).2.1 = (reapN x.n S x.r x.D.length).2.2.1 ∧ (reapX x).2.2 = (reapN x.n S x.r x.D.length).2.2.2 := by
  obtain ⟨n, r, D, T, P⟩ := x
  cases D with
  | nil => exact ⟨rfl, hl, rfl, rfl, rfl, rfl, rfl, rfl⟩
  | cons f D =>
    have h := lies_at hx hl (i := 0) (f := f) (c := r) (by simp [Rn.all]) (by have := hx.lt; simp only at this ⊢; omega)
    have h2 := Lies.reap hx.may (f := f) (l := D ++ T ++ P) (by simpa [Rn.all] using hl)
    unfold reapN
    rw [if_neg (by simp), h]
    refine ⟨rfl, h2, rfl, ?_, ?_, ?_, rfl, rfl⟩
    · simp only [reapX, Rn.p, Rn.len, List.length_cons]
      omega
    · simp only [reapX, Rn.t, List.length_cons]
      omega
    · simp only [reapX, Rn.d, List.length_cons]
      omega
theorem quiet_x (hx : x.Ok) (hl : Lies x.n x.r x.all S) : quietL x.n S x.t x.P.length = x.P := by
  refine List.ext_getElem? fun i => ?_
  unfold quietL
  rw [List.getElem?_map]
  rcases Nat.lt_or_ge i x.P.length with hi | hi
  · rw [List.getElem?_range hi]
    have h := lies_at hx hl (i := x.D.length + x.T.length + i) (f := x.P[i]) (c := (x.r + (x.D.length + x.T.length + i)) % 65536) (by
      simp only [Rn.all]
      rw [List.getElem?_append_right (by simp)]
      simp only [List.length_append]
      rw [show x.D.length + x.T.length + i - (x.D.length + x.T.length) = i from by omega]
      exact List.getElem?_eq_getElem hi) rfl
    rw [mod_big0 hx.may, ← Nat.add_assoc] at h
    show some ((S[(x.t + i) % x.n]?).getD []) = _
    rw [Rn.t, mod_big hx.may, h, List.getElem?_eq_getElem hi]
    rfl
  · rw [List.getElem?_eq_none (by simpa using hi), List.getElem?_eq_none hi]
    rfl
theorem quiet_c : (quietX x).p = x.p ∧ (quietX x).t = x.p ∧ (quietX x).d = x.p := by
  have := x.p_lt
  refine ⟨?_, ?_, ?_⟩
  · show (x.p + 0) % 65536 = _; omega
  · show (x.p + 0) % 65536 = _; omega
  · show (x.p + 0) % 65536 = _; omega
end

section
variable {x : Rn} {lo hi : Nat} {v : Value} {w : World}
theorem rg_len (hg : Rg lo hi x w v) (hx : x.Ok) (w1 : World) : Calls Try.prog 12 #[v] w1 fun e w' => e = .returned (.int .i64 (x.len : Int)) ∧ Below w1.heap.size w1 w' := by
  obtain ⟨S, A, c, vs, m, hl, rfl, hs, hlm⟩ := hg
  exact len_num x.n c x.p x.t x.d x.r x.len A w1 x.p_lt hx.lt (by have := hx.le; have := hx.may.pos; omega) rfl
theorem rg_right (hg : Rg lo hi x w v) (hx : x.Ok) (hhi : hi ≤ w.heap.size) : Calls Try.prog 11 #[v] w fun e w' => e = .returned (.bool true) ∧ Below w.heap.size w w' := by
  obtain ⟨S, A, c, vs, m, hl, rfl, hs, hlm⟩ := hg
  exact right_num x.n c x.p x.t x.d x.r x.D.length x.T.length x.P.length lo m hi A S vs x.all w hs hx.may hl x.all_length hhi x.p_lt x.t_lt x.d_lt hx.lt rfl rfl rfl hx.le
theorem rg_clone (hg : Rg lo hi x w v) (hx : x.Ok) (hhi : hi ≤ w.heap.size) : Calls Try.prog 14 #[v] w fun e w' => ∃ v', e = .returned v' ∧ Rg w.heap.size w'.heap.size x w' v' ∧ Below w.heap.size w w' := by
  obtain ⟨S, A, c, vs, m, hl, rfl, hs, hlm⟩ := hg
  refine (clone_num x.n c x.p x.t x.d x.r lo m hi A S vs w hs hx.may hl.len (hl.small hx.may hx.small) hhi).mono ?_
  rintro e w' ⟨A', c', vs', m', rfl, hs', hm', hb⟩
  exact ⟨_, rfl, ⟨S, A', c', vs', m', hl, rfl, hs', hm'⟩, hb⟩
theorem rg_post (hg : Rg lo hi x w v) (hx : x.Ok) (hhi : hi ≤ w.heap.size) (AF : Option Addr) (cF loF hiF : Nat) (f : Fr) (hrf : Rd w loF hiF AF (cells f)) (hhf : hiF ≤ w.heap.size) (haf : AF = none → cF = 0) (hfl : f.length ≤ 100000) :
    Calls Try.prog 15 #[v, .slice AF f.length cF] w fun e w' => ∃ v', e = .returned (.tuple #[v', .int .i64 ((postX x f).2 : Int)]) ∧ Rg w.heap.size w'.heap.size (postX x f).1 w' v' ∧ Below w.heap.size w w' := by
  obtain ⟨S, A, c, vs, m, hl, rfl, hs, hlm⟩ := hg
  refine (post_num x.n c x.p x.t x.d x.r x.D.length x.T.length x.P.length lo m hi A S vs AF cF loF hiF f w hs hx.may hl.len (hl.small hx.may hx.small) hhi x.p_lt x.t_lt x.d_lt hx.lt rfl rfl rfl hx.le hrf hhf haf hfl).mono ?_
  rintro e w' ⟨A', c', vs', m', rfl, hs', hm', hb⟩
  obtain ⟨e0, e1, e2, e3, e4, e5, e6⟩ := post_x hx hl f
  rw [show x.D.length + x.T.length + x.P.length = x.len from rfl] at hs' ⊢
  rw [← e2, ← e6]
  refine ⟨_, rfl, ⟨_, A', c', vs', m', by rw [e0]; exact e1, ?_, by rw [e0]; exact hs', hm'⟩, hb⟩
  unfold rgC
  rw [e0, e3, e4, e5]
theorem rg_take (hg : Rg lo hi x w v) (hx : x.Ok) (hhi : hi ≤ w.heap.size) :
    Calls Try.prog 16 #[v] w fun e w' => ∃ v' u H, e = .returned (.tuple #[v', u, .int .i64 ((takeX x).2.2 : Int)]) ∧ Rg w.heap.size H (takeX x).1 w' v' ∧ H ≤ w'.heap.size ∧ w'.ownsRow H 5 1 u (takeX x).2.1.length (cells (takeX x).2.1) ∧ Below w.heap.size w w' := by
  obtain ⟨S, A, c, vs, m, hl, rfl, hs, hlm⟩ := hg
  refine (take_num x.n c x.p x.t x.d x.r x.D.length x.T.length x.P.length lo m hi A S vs w hs hx.may hl.len (hl.small hx.may hx.small) hhi x.p_lt x.t_lt x.d_lt hx.lt rfl rfl rfl hx.le).mono ?_
  rintro e w' ⟨A', c', vs', m', H, u, rfl, hs', hm', hH, hu, hb⟩
  obtain ⟨e0, e1, e2, e3, e4, e5, e6, e7⟩ := take_x hx hl
  rw [← e6] at hu
  rw [← e4, ← e7]
  refine ⟨_, u, H, rfl, ⟨S, A', c', vs', m', by rw [e0, e1, e2]; exact hl, ?_, by rw [e0]; exact hs', hm'⟩, hH, hu, hb⟩
  unfold rgC
  rw [e0, e3, e5, e1]
theorem rg_fin (hg : Rg lo hi x w v) (hx : x.Ok) (hhi : hi ≤ w.heap.size) :
    Calls Try.prog 17 #[v] w fun e w' => ∃ v', e = .returned (.tuple #[v', .int .i64 ((finX x).2 : Int)]) ∧ Rg w.heap.size w'.heap.size (finX x).1 w' v' ∧ Below w.heap.size w w' := by
  obtain ⟨S, A, c, vs, m, hl, rfl, hs, hlm⟩ := hg
  refine (fin_num x.n c x.p x.t x.d x.r x.D.length x.T.length x.P.length lo m hi A S vs w hs hx.may hl.len (hl.small hx.may hx.small) hhi x.p_lt x.t_lt x.d_lt hx.lt rfl rfl rfl hx.le).mono ?_
  rintro e w' ⟨A', c', vs', m', rfl, hs', hm', hb⟩
  obtain ⟨e0, e1, e2, e3, e4, e5, e6⟩ := fin_x (x := x)
  rw [← e5, ← e6]
  refine ⟨_, rfl, ⟨S, A', c', vs', m', by rw [e0, e1, e2]; exact hl, ?_, by rw [e0]; exact hs', hm'⟩, hb⟩
  unfold rgC
  rw [e0, e3, e4, e1]
theorem rg_reap (hg : Rg lo hi x w v) (hx : x.Ok) (hhi : hi ≤ w.heap.size) :
    Calls Try.prog 18 #[v] w fun e w' => ∃ v' u, e = .returned (.tuple #[v', u, .int .i64 ((reapX x).2.2 : Int)]) ∧ Rg w.heap.size w'.heap.size (reapX x).1 w' v' ∧ BV w.heap.size w'.heap.size (reapX x).2.1 w' u ∧ Below w.heap.size w w' := by
  obtain ⟨S, A, c, vs, m, hl, rfl, hs, hlm⟩ := hg
  refine (reap_num x.n c x.p x.t x.d x.r x.D.length x.T.length x.P.length lo m hi A S vs w hs hx.may hl.len (hl.small hx.may hx.small) hhi x.p_lt x.t_lt x.d_lt hx.lt rfl rfl rfl hx.le).mono ?_
  rintro e w' ⟨A', c', vs', m', u, rfl, hs', hm', hu, hb⟩
  obtain ⟨e0, e1, e2, e3, e4, e5, e6, e7⟩ := reap_x hx hl
  rw [← e6] at hu
  rw [← e2, ← e7]
  refine ⟨_, u, rfl, ⟨_, A', c', vs', m', by rw [e0]; exact e1, ?_, by rw [e0]; exact hs', hm'⟩, hu, hb⟩
  unfold rgC
  rw [e0, e3, e4, e5]
theorem rg_quiet (hg : Rg lo hi x w v) (hx : x.Ok) (hhi : hi ≤ w.heap.size) :
    Calls Try.prog 19 #[v] w fun e w' => ∃ v' u us, e = .returned (.tuple #[v', u]) ∧ Rg w.heap.size w'.heap.size (quietX x) w' v' ∧ w'.ownsRow w.heap.size 35 1 u x.P.length us ∧ FrB w.heap.size w'.heap.size us x.P w' ∧ Below w.heap.size w w' := by
  obtain ⟨S, A, c, vs, m, hl, rfl, hs, hlm⟩ := hg
  refine (quiet_num x.n c x.p x.t x.d x.r x.D.length x.T.length x.P.length lo m hi A S vs w hs hx.may hl.len (hl.small hx.may hx.small) hhi x.p_lt x.t_lt x.d_lt hx.lt rfl rfl rfl hx.le).mono ?_
  rintro e w' ⟨A', c', vs', m', u, us, rfl, hs', hm', hu, hf, hb⟩
  obtain ⟨e1, e2, e3⟩ := quiet_c (x := x)
  rw [quiet_x hx hl] at hf
  refine ⟨_, u, us, rfl, ⟨_, A', c', vs', m', Lies.nil hx.may, ?_, hs', hm'⟩, hu, hf, hb⟩
  unfold rgC
  rw [e1, e2, e3]
  rfl
end
end Go.Proofs.Ytdbiledmokldjaa
