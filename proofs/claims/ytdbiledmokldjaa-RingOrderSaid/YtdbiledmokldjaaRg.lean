/-
  A ring's words: its places, counts and frames; how a ring lies in memory. No condition.
-/
import Derived.Test.YtdbiledmokldjaaKit
namespace Go.Proofs.Ytdbiledmokldjaa
open Go.RowKit

theorem info_u8 : (Try.prog.info? 5).map (fun i => (i.zero, i.size, i.bytes)) = some (some (.int .u8 0), 1, 1) := by kernel_rfl
theorem info_bs : (Try.prog.info? 35).map (fun i => (i.zero, i.size, i.bytes)) = some (some (.slice none 0 0), 1, 24) := by kernel_rfl
theorem info_st : (Try.prog.info? 9).map (fun i => (i.zero, i.size, i.bytes)) = some (some (.string ⟨#[]⟩), 1, 16) := by kernel_rfl

abbrev Fr := List UInt8
/-- how many places a ring may have -/
def MayN (n : Nat) : Prop := n = 1 ∨ n = 2 ∨ n = 4 ∨ n = 8 ∨ n = 16
theorem MayN.pos {n : Nat} (h : MayN n) : 1 ≤ n ∧ n ≤ 16 := by rcases h with rfl | rfl | rfl | rfl | rfl <;> omega

/-- the frames l lie in the places S from the count r on; the other places are empty -/
structure Lies (n r : Nat) (l S : List Fr) : Prop where
  len : S.length = n
  le : l.length ≤ n
  full : ∀ i f, l[i]? = some f → S[(r + i) % n]? = some f
  free : ∀ i, l.length ≤ i → i < n → S[(r + i) % n]? = some []
section
variable {n r : Nat} {l S : List Fr}
theorem mod_inj (hn : MayN n) {i j : Nat} (hi : i < n) (hj : j < n) (h : (r + i) % n = (r + j) % n) : i = j := by
  rcases hn with rfl | rfl | rfl | rfl | rfl <;> omega
theorem mod_lt (hn : MayN n) (k : Nat) : k % n < n := Nat.mod_lt _ (by have := hn.pos; omega)
theorem mod_big (hn : MayN n) (a b : Nat) : ((a % 65536) + b) % n = (a + b) % n := by
  rcases hn with rfl | rfl | rfl | rfl | rfl <;> omega
theorem mod_big0 (hn : MayN n) (a : Nat) : (a % 65536) % n = a % n := by
  rcases hn with rfl | rfl | rfl | rfl | rfl <;> omega
theorem Lies.nil (hn : MayN n) : Lies n r [] (List.replicate n []) :=
  ⟨by simp, Nat.zero_le _, fun i f h => by simp at h, fun i _ _ => by rw [List.getElem?_replicate, if_pos (mod_lt hn _)]⟩
theorem Lies.post (hn : MayN n) (h : Lies n r l S) (hlt : l.length < n) (f : Fr) : Lies n r (l ++ [f]) (S.set ((r + l.length) % n) f) := by
  have hb : (r + l.length) % n < S.length := by rw [h.len]; exact mod_lt hn _
  refine ⟨by rw [List.length_set]; exact h.len, by rw [List.length_append]; exact hlt, fun i g hg => ?_, fun i h1 h2 => ?_⟩
  · rcases Nat.lt_or_ge i l.length with hi | hi
    · rw [List.getElem?_append_left hi] at hg
      rw [List.getElem?_set_ne fun e => by have := mod_inj hn hlt (by omega) e; omega]
      exact h.full i g hg
    · have hi2 : i = l.length := by
        have := (List.getElem?_eq_some_iff.1 hg).1
        simp at this
        omega
      subst hi2
      rw [List.getElem?_append_right (Nat.le_refl _), Nat.sub_self] at hg
      rw [List.getElem?_set_self hb]
      exact hg
  · rw [List.length_append, List.length_singleton] at h1
    rw [List.getElem?_set_ne fun e => by have := mod_inj hn hlt h2 e; omega]
    exact h.free i (by omega) h2
theorem Lies.reap (hn : MayN n) {f : Fr} (h : Lies n r (f :: l) S) : Lies n ((r + 1) % 65536) l (S.set (r % n) []) := by
  have hle := h.le
  rw [List.length_cons] at hle
  have hp := hn.pos
  have hb : r % n < S.length := by rw [h.len]; exact mod_lt hn _
  have hr0 : (r + 0) % n = r % n := rfl
  refine ⟨by rw [List.length_set]; exact h.len, by omega, fun i g hg => ?_, fun i h1 h2 => ?_⟩
  · have hi := (List.getElem?_eq_some_iff.1 hg).1
    rw [mod_big hn, Nat.add_assoc, Nat.add_comm 1 i, List.getElem?_set_ne fun e => by have := mod_inj (i := 0) (j := i + 1) hn (by omega) (by omega) e; omega]
    exact h.full (i + 1) g (by simpa using hg)
  · rw [mod_big hn, Nat.add_assoc, Nat.add_comm 1 i]
    by_cases hi : i + 1 < n
    · rw [List.getElem?_set_ne fun e => by have := mod_inj (i := 0) (j := i + 1) hn (by omega) hi e; omega]
      exact h.free (i + 1) (by simpa using h1) hi
    · have e : (r + (i + 1)) % n = r % n := by rw [show i + 1 = n by omega, Nat.add_mod_right]
      rw [e, List.getElem?_set_self hb]
end

/-- a ring: places, the count of the first frame, those that are done, taken, posted -/
structure Rn where
  n : Nat
  r : Nat
  D : List Fr
  T : List Fr
  P : List Fr
def Rn.all (x : Rn) : List Fr := x.D ++ x.T ++ x.P
def Rn.len (x : Rn) : Nat := x.D.length + x.T.length + x.P.length
theorem Rn.all_length (x : Rn) : x.all.length = x.len := by simp only [Rn.all, Rn.len, List.length_append]
def Rn.d (x : Rn) : Nat := (x.r + x.D.length) % 65536
def Rn.t (x : Rn) : Nat := (x.r + (x.D.length + x.T.length)) % 65536
def Rn.p (x : Rn) : Nat := (x.r + x.len) % 65536
structure Rn.Ok (x : Rn) : Prop where
  may : MayN x.n
  lt : x.r < 65536
  le : x.len ≤ x.n
  small : ∀ f ∈ x.all, f.length ≤ 214
/-- what may be done with it -/
def Rn.post (x : Rn) (f : Fr) : Rn := { x with P := x.P ++ [f] }
def postX (x : Rn) (f : Fr) : Rn × Nat := if 214 < f.length then (x, 4) else if x.len = x.n then (x, 5) else (x.post f, 0)
def takeX (x : Rn) : Rn × Fr × Nat := match x.P with | [] => (x, [], 2) | f :: P => ({ x with T := x.T ++ [f], P := P }, f, 0)
def finX (x : Rn) : Rn × Nat := match x.T with | [] => (x, 2) | f :: T => ({ x with D := x.D ++ [f], T := T }, 0)
def reapX (x : Rn) : Rn × Fr × Nat := match x.D with | [] => (x, [], 2) | f :: D => ({ x with r := (x.r + 1) % 65536, D := D }, f, 0)
def quietX (x : Rn) : Rn := { n := x.n, r := x.p, D := [], T := [], P := [] }
def newX (n c : Nat) : Rn := { n := n, r := c, D := [], T := [], P := [] }
section
variable {x : Rn}
theorem ok_new {n c : Nat} (hn : MayN n) (hc : c < 65536) : (newX n c).Ok := ⟨hn, hc, Nat.zero_le _, by simp [newX, Rn.all]⟩
theorem ok_quiet (h : x.Ok) : (quietX x).Ok := ⟨h.may, Nat.mod_lt _ (by omega), Nat.zero_le _, by simp [quietX, Rn.all]⟩
theorem ok_post (h : x.Ok) (f : Fr) : (postX x f).1.Ok := by
  unfold postX
  split
  · exact h
  · split
    · exact h
    · refine ⟨h.may, h.lt, ?_, fun g hg => ?_⟩
      · have := h.le
        simp only [Rn.post, Rn.len, List.length_append, List.length_singleton] at *
        omega
      · simp only [Rn.post, Rn.all, List.mem_append, List.mem_singleton] at hg
        rcases hg with hg | hg | rfl
        · exact h.small g (by simp only [Rn.all, List.mem_append]; exact .inl hg)
        · exact h.small g (by simp only [Rn.all, List.mem_append]; exact .inr hg)
        · omega
theorem ok_take (h : x.Ok) : (takeX x).1.Ok := by
  obtain ⟨n, r, D, T, P⟩ := x
  cases P with
  | nil => exact h
  | cons f P =>
    refine ⟨h.may, h.lt, ?_, fun g hg => h.small g ?_⟩
    · have := h.le
      simp only [takeX, Rn.len, List.length_append, List.length_cons, List.length_nil] at *
      omega
    · simpa [takeX, Rn.all] using hg
theorem ok_fin (h : x.Ok) : (finX x).1.Ok := by
  obtain ⟨n, r, D, T, P⟩ := x
  cases T with
  | nil => exact h
  | cons f T =>
    refine ⟨h.may, h.lt, ?_, fun g hg => h.small g ?_⟩
    · have := h.le
      simp only [finX, Rn.len, List.length_append, List.length_cons, List.length_nil] at *
      omega
    · simpa [finX, Rn.all] using hg
theorem ok_reap (h : x.Ok) : (reapX x).1.Ok := by
  obtain ⟨n, r, D, T, P⟩ := x
  cases D with
  | nil => exact h
  | cons f D =>
    refine ⟨h.may, Nat.mod_lt _ (by omega), ?_, fun g hg => h.small g ?_⟩
    · have := h.le
      simp only [reapX, Rn.len, List.length_cons] at *
      omega
    · simp only [reapX, Rn.all, List.mem_append, List.mem_cons] at *
      rcases hg with (hg | hg) | hg
      · exact .inl (.inl (.inr hg))
      · exact .inl (.inr hg)
      · exact .inr hg
end

/-- bytes that are read behind a slice, in blocks from lo on and below hi -/
def BV (lo hi : Nat) (l : Fr) (w : World) (v : Value) : Prop := ∃ A c, v = .slice A l.length c ∧ Rd w lo hi A (cells l) ∧ (A = none → c = 0)
/-- values that read as frames -/
def FrB (lo hi : Nat) (vs : List Value) (ps : List Fr) (w : World) : Prop := vs.length = ps.length ∧ ∀ (i : Nat) (p : Fr), ps[i]? = some p → ∃ v, vs[i]? = some v ∧ BV lo hi p w v
section
variable {lo hi lo' hi' : Nat} {l : Fr} {w w' : World} {v : Value} {vs : List Value} {ps : List Fr}
theorem BV.stay (h : BV lo hi l w v) (hs : Stay lo hi w w') : BV lo hi l w' v := by
  obtain ⟨A, c, e, h1, h2⟩ := h
  exact ⟨A, c, e, h1.stay hs, h2⟩
theorem BV.wide (h : BV lo hi l w v) (h1 : lo' ≤ lo) (h2 : hi ≤ hi') : BV lo' hi' l w v := by
  obtain ⟨A, c, e, h3, h4⟩ := h
  exact ⟨A, c, e, h3.wide h1 h2, h4⟩
theorem BV.nil : BV lo hi [] w (.slice none 0 0) := ⟨none, 0, rfl, Rd.nil, fun _ => rfl⟩
theorem BV.own (h : w.ownsRow lo 5 1 v l.length (cells l)) : BV lo w.heap.size l w v := by
  obtain ⟨A, c, rfl, -, -, hA⟩ := ownk_form h
  exact ⟨A, c, rfl, ownk_rd h, hA⟩
theorem BV.one (h : BV lo hi l w v) : v.oneCell' = true := by
  obtain ⟨A, c, rfl, -⟩ := h
  rfl
theorem FrB.stay (h : FrB lo hi vs ps w) (hs : Stay lo hi w w') : FrB lo hi vs ps w' := ⟨h.1, fun i p hp => by
  obtain ⟨v, h1, h2⟩ := h.2 i p hp
  exact ⟨v, h1, h2.stay hs⟩⟩
theorem FrB.wide (h : FrB lo hi vs ps w) (h1 : lo' ≤ lo) (h2 : hi ≤ hi') : FrB lo' hi' vs ps w := ⟨h.1, fun i p hp => by
  obtain ⟨v, h3, h4⟩ := h.2 i p hp
  exact ⟨v, h3, h4.wide h1 h2⟩⟩
theorem FrB.at_ (h : FrB lo hi vs ps w) {i : Nat} {p : Fr} (hp : ps[i]? = some p) : ∃ v, vs[i]? = some v ∧ BV lo hi p w v := h.2 i p hp
theorem FrB.set (h : FrB lo hi vs ps w) (k : Nat) {f : Fr} (hv : BV lo hi f w v) : FrB lo hi (vs.set k v) (ps.set k f) w := by
  refine ⟨by simp [h.1], fun i p hp => ?_⟩
  by_cases hik : k = i
  · subst hik
    have hk : k < ps.length := by
      have := (List.getElem?_eq_some_iff.1 hp).1
      simpa using this
    rw [List.getElem?_set_self hk] at hp
    injection hp with hp
    subst hp
    exact ⟨v, List.getElem?_set_self (by rw [h.1]; exact hk), hv⟩
  · rw [List.getElem?_set_ne hik] at hp
    obtain ⟨u, h1, h2⟩ := h.2 i p hp
    exact ⟨u, by rw [List.getElem?_set_ne hik]; exact h1, h2⟩
theorem FrB.app (h : FrB lo hi vs ps w) {f : Fr} (hv : BV lo hi f w v) : FrB lo hi (vs ++ [v]) (ps ++ [f]) w := by
  refine ⟨by simp [h.1], fun i p hp => ?_⟩
  rcases Nat.lt_or_ge i ps.length with hi' | hi'
  · rw [List.getElem?_append_left hi'] at hp
    obtain ⟨u, h1, h2⟩ := h.2 i p hp
    exact ⟨u, by rw [List.getElem?_append_left (by rw [h.1]; exact hi')]; exact h1, h2⟩
  · have hi2 : i = ps.length := by
      have := (List.getElem?_eq_some_iff.1 hp).1
      simp at this
      omega
    subst hi2
    rw [List.getElem?_append_right (Nat.le_refl _), Nat.sub_self] at hp
    simp at hp
    subst hp
    exact ⟨v, by rw [← h.1, List.getElem?_append_right (Nat.le_refl _), Nat.sub_self]; rfl, hv⟩
theorem FrB.ones (h : FrB lo hi vs ps w) : ∀ u ∈ vs, u.oneCell' = true := by
  intro u hu
  obtain ⟨i, hi, rfl⟩ := List.mem_iff_getElem.1 hu
  obtain ⟨v, h1, h2⟩ := h.2 i _ (List.getElem?_eq_getElem (by rw [← h.1]; exact hi))
  rw [List.getElem?_eq_getElem hi] at h1
  injection h1 with h1
  rw [h1]
  exact h2.one
theorem FrB.nils (n : Nat) : FrB lo hi (List.replicate n (.slice none 0 0)) (List.replicate n []) w := by
  refine ⟨by simp, fun i p hp => ?_⟩
  rw [List.getElem?_replicate] at hp
  split at hp
  · rename_i hi
    injection hp with hp
    subst hp
    exact ⟨_, by rw [List.getElem?_replicate, if_pos hi], BV.nil⟩
  · cases hp
end

/-- the places of a ring in memory: the row lies in a block from lo on and below m, the frames from m on and below hi -/
structure RgS (lo m hi n : Nat) (S : List Fr) (w : World) (A : Option Addr) (c : Nat) (vs : List Value) : Prop where
  own : w.ownsRow lo 35 1 (.slice A n c) n vs
  lt : ∀ g, A = some ⟨g, 0, none⟩ → g < m
  le : m ≤ hi
  fr : FrB m hi vs S w
/-- a ring's value -/
def rgC (x : Rn) (A : Option Addr) (c : Nat) : Array Value := #[.slice A x.n c, .int .u16 (x.p : Int), .int .u16 (x.t : Int), .int .u16 (x.d : Int), .int .u16 (x.r : Int)]
def Rg (lo hi : Nat) (x : Rn) (w : World) (v : Value) : Prop := ∃ S A c vs m, Lies x.n x.r x.all S ∧ v = .agg (rgC x A c) ∧ RgS lo m hi x.n S w A c vs ∧ lo ≤ m
section
variable {lo m hi lo' hi' n c : Nat} {S : List Fr} {w w' : World} {A : Option Addr} {vs : List Value} {x : Rn} {v : Value}
theorem ownk_stay {base k n : Nat} {e : TypeId} {A : Option Addr} {xs : List Value} (h : w.ownsRow base e k (.slice A n c) n xs) (hlt : ∀ g, A = some ⟨g, 0, none⟩ → g < hi) (hs : Stay base hi w w') : w'.ownsRow base e k (.slice A n c) n xs := by
  refine ⟨h.1, ?_⟩
  rcases h.2 with h2 | ⟨g, cap, cur, e, h1, h2, h3⟩
  · exact .inl h2
  · injection e with e1 _ e3
    exact .inr ⟨g, cap, cur, by rw [e1, e3], h1, (hs g h1 (hlt g e1)).trans h2, h3⟩
theorem RgS.stay (h : RgS lo m hi n S w A c vs) (hm : lo ≤ m) (hs : Stay lo hi w w') : RgS lo m hi n S w' A c vs :=
  ⟨ownk_stay h.own (fun g e => Nat.lt_of_lt_of_le (h.lt g e) h.le) hs, h.lt, h.le, h.fr.stay fun j h1 h2 => hs j (by omega) h2⟩
theorem RgS.wide (h : RgS lo m hi n S w A c vs) (h1 : lo' ≤ lo) (h2 : hi ≤ hi') : RgS lo' m hi' n S w A c vs := ⟨ownk_base h.own h1, h.lt, Nat.le_trans h.le h2, h.fr.wide (Nat.le_refl _) h2⟩
theorem Rg.stay (h : Rg lo hi x w v) (hs : Stay lo hi w w') : Rg lo hi x w' v := by
  obtain ⟨S, A, c, vs, m, h1, h2, h3, h4⟩ := h
  exact ⟨S, A, c, vs, m, h1, h2, h3.stay h4 hs, h4⟩
theorem Rg.wide (h : Rg lo hi x w v) (h1 : lo' ≤ lo) (h2 : hi ≤ hi') : Rg lo' hi' x w v := by
  obtain ⟨S, A, c, vs, m, h3, h4, h5, h6⟩ := h
  exact ⟨S, A, c, vs, m, h3, h4, h5.wide h1 h2, by omega⟩
theorem Rg.below {B : Nat} (h : Rg lo hi x w v) (hb : Below B w w') (hB : hi ≤ B) : Rg lo hi x w' v := h.stay (Stay.of hb hB)
theorem Lies.small {r : Nat} {l : List Fr} (hn : MayN n) (h : Lies n r l S) (hl : ∀ f ∈ l, f.length ≤ 214) : ∀ f ∈ S, f.length ≤ 214 := by
  intro f hf
  obtain ⟨j, hj, rfl⟩ := List.mem_iff_getElem.1 hf
  have hp := hn.pos
  have hlen := h.len
  obtain ⟨i, hi, hij⟩ : ∃ i, i < n ∧ (r + i) % n = j := ⟨(j + n - r % n) % n, mod_lt hn _, by rcases hn with rfl | rfl | rfl | rfl | rfl <;> omega⟩
  rcases Nat.lt_or_ge i l.length with hlt | hge
  · have := h.full i _ (List.getElem?_eq_getElem hlt)
    rw [hij, List.getElem?_eq_getElem hj] at this
    injection this with this
    rw [this]
    exact hl _ (List.getElem_mem hlt)
  · have := h.free i hge hi
    rw [hij, List.getElem?_eq_getElem hj] at this
    injection this with this
    rw [this]
    simp
theorem ring_ones (n c : Nat) (p t d r : Int) (A : Option Addr) : (#[.slice A n c, .int .u16 p, .int .u16 t, .int .u16 d, .int .u16 r] : Array Value).all (·.oneCell') = true :=
  all_one (cs := [.slice A n c, .int .u16 p, .int .u16 t, .int .u16 d, .int .u16 r]) (by intro u hu; simp at hu; rcases hu with rfl | rfl | rfl | rfl | rfl <;> rfl)
theorem rgC_ones (x : Rn) (A : Option Addr) (c : Nat) : (rgC x A c).all (·.oneCell') = true := ring_ones _ _ _ _ _ _ _
end
end Go.Proofs.Ytdbiledmokldjaa
