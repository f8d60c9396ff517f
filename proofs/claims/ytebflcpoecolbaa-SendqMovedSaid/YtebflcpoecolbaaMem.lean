/-
  Words for memory, of no one layer: a slice whose first cells are known, its head being nil or anywhere between two block numbers; bytes as cells. No condition.
-/
import Derived.WalkKit
import Derived.WalkSpells
import Derived.WalkLawsBesides
import Derived.Laws.IdiomStrings
import Derived.Laws.AppendOwnNone
import Derived.Maps.AppendAt
import Derived.Lib.Hide
import Derived.Test.YtebflcpoecolbaaProg
namespace Go.Proofs.Ytebflcpoecolbaa
open Go.RowKit

/-- Every cell of xs is read behind head A, in a block from lo on and below hi. -/
def Rd (w : World) (lo hi : Nat) (A : Option Addr) (xs : List Value) : Prop :=
  ∀ k u, xs[k]? = some u → ∃ ad, A = some ad ∧ lo ≤ ad.block ∧ ad.block < hi ∧ w.cell? (ad.add k) = some u

theorem blk_add (a : Addr) (n : Nat) : (a.add n).block = a.block := by
  unfold Addr.add
  split <;> rfl
theorem add_twice (a : Addr) (i j : Nat) : (a.add i).add j = a.add (i + j) := by
  unfold Addr.add
  by_cases hi : i = 0 <;> by_cases hj : j = 0 <;> simp [hi, hj, Nat.add_assoc]

section
variable {w w' : World} {lo hi : Nat} {A : Option Addr} {xs : List Value}
theorem Rd.nil : Rd w lo hi A [] := by intro k u h; simp at h
theorem Rd.keep (h : Rd w lo hi A xs) (hk : ∀ p : Addr, lo ≤ p.block → p.block < hi → w'.cell? p = w.cell? p) : Rd w' lo hi A xs := by
  intro k u hu
  obtain ⟨ad, e, h1, h2, h3⟩ := h k u hu
  exact ⟨ad, e, h1, h2, (hk _ (by rw [blk_add]; exact h1) (by rw [blk_add]; exact h2)).trans h3⟩
theorem Rd.wide {lo' hi' : Nat} (h : Rd w lo hi A xs) (h1 : lo' ≤ lo) (h2 : hi ≤ hi') : Rd w lo' hi' A xs := by
  intro k u hu
  obtain ⟨ad, e, a, b, c⟩ := h k u hu
  exact ⟨ad, e, by omega, by omega, c⟩
theorem Rd.below {B : Nat} (h : Rd w lo hi A xs) (hb : Below B w w') (hB : hi ≤ B) : Rd w' lo hi A xs := h.keep fun _ _ hp => hb.cell (by omega)
theorem Rd.drewN (h : Rd w lo hi A xs) (n : Nat) : Rd (w.drewN n) lo hi A xs := h
theorem Rd.drew (h : Rd w lo hi A xs) : Rd w.drew lo hi A xs := h
theorem Rd.alloc (h : Rd w lo hi A xs) (hB : hi ≤ w.heap.size) (o : Obj) : Rd (w.alloc o) lo hi A xs := h.keep fun p _ hp => World.cell?_alloc_lt w o p (by omega)
theorem Rd.grown {row : Option Nat} (h : Rd w lo hi A xs) (hg : w.grownBy w' row) (hB : hi ≤ w.heap.size) (hr : ∀ g, row = some g → g < lo ∨ hi ≤ g) : Rd w' lo hi A xs :=
  h.keep fun p h1 h2 => World.cell?_of_block (hg.block p.block (by omega) (fun e => by
    rcases hr _ e.symm with h | h <;> omega))
theorem Rd.setCell (h : Rd w lo hi A xs) {p : Addr} (hp : p.block < lo ∨ hi ≤ p.block) (u : Value) : Rd (w.setCell p u) lo hi A xs :=
  h.keep fun q h1 h2 => World.cell?_setCell_other w p q u (fun e => by subst e; omega)
theorem Rd.take (h : Rd w lo hi A xs) (k : Nat) : Rd w lo hi A (xs.take k) := by
  intro j u hu
  rw [List.getElem?_take] at hu
  split at hu
  · exact h j u hu
  · cases hu
theorem Rd.drop (h : Rd w lo hi A xs) (k : Nat) : Rd w lo hi (A.map (·.add k)) (xs.drop k) := by
  intro j u hu
  rw [List.getElem?_drop] at hu
  obtain ⟨ad, rfl, h1, h2, h3⟩ := h (k + j) u hu
  exact ⟨ad.add k, rfl, by rw [blk_add]; exact h1, by rw [blk_add]; exact h2, by rw [add_twice]; exact h3⟩
theorem Rd.own {base : Nat} {e : TypeId} {n c : Nat} (h : w.ownsRow base e 1 (.slice A n c) n xs) : Rd w base w.heap.size A xs := by
  intro k u hu
  rcases h.2 with ⟨he, hn⟩ | ⟨g, cap, cur, he, h1, h2, _⟩
  · have := h.1
    have hk := (List.getElem?_eq_some_iff.1 hu).1
    omega
  · injection he with e1 e2 e3
    subst e1
    have hlt := h.lt g rfl
    exact ⟨_, rfl, h1, hlt.2, h.cells (g := g) rfl k u hu⟩
end

/-- a new block reads as what was laid there -/
theorem rd_new (w : World) (cs : List Value) (t : TypeId) (fr : Nat × Nat) : Rd (w.alloc (.cells cs.toArray t fr)) w.heap.size (w.heap.size + 1) (some ⟨w.heap.size, 0, none⟩) cs := by
  intro k u hu
  refine ⟨_, rfl, Nat.le_refl _, by show w.heap.size < _; omega, ?_⟩
  have e : ((⟨w.heap.size, 0, none⟩ : Addr).add k) = ⟨w.heap.size, k, none⟩ := by
    unfold Addr.add
    by_cases h : k = 0 <;> simp [h]
  rw [e, cell_of_row _ _ k cs.toArray t fr (heap_alloc_new w _)]
  simpa using hu

/-- bytes as cells -/
def cells (l : List UInt8) : List Value := l.map fun c => .int .u8 (c.toNat : Int)
theorem cells_length (l : List UInt8) : (cells l).length = l.length := by simp [cells]
theorem cells_get (l : List UInt8) (k : Nat) (h : k < l.length) : (cells l)[k]? = some (.int .u8 (l[k].toNat : Int)) := by simp [cells, h]
theorem cells_one (l : List UInt8) : ∀ u ∈ cells l, u.oneCell' = true := by
  intro u hu
  simp [cells] at hu
  obtain ⟨c, _, rfl⟩ := hu
  rfl
theorem cells_append (l m : List UInt8) : cells (l ++ m) = cells l ++ cells m := by simp [cells]
theorem cells_drop (l : List UInt8) (k : Nat) : (cells l).drop k = cells (l.drop k) := by simp [cells, List.map_drop]
theorem cells_take (l : List UInt8) (k : Nat) : (cells l).take k = cells (l.take k) := by simp [cells, List.map_take]
theorem Rd.byte {w : World} {lo hi : Nat} {A : Option Addr} {l : List UInt8} (h : Rd w lo hi A (cells l)) {k : Nat} (hk : k < l.length) :
    ∃ ad, A = some ad ∧ w.cell? (ad.add k) = some (.int .u8 (l[k].toNat : Int)) := by
  obtain ⟨ad, e, _, _, hc⟩ := h k _ (cells_get l k hk)
  exact ⟨ad, e, hc⟩

/-- 'string(b)' -/
theorem run_text {P : Program} (w : World) (src dst e : TypeId) {lo hi : Nat} {A : Option Addr} {l : List UInt8} (c : Nat) (hs : P.underlying src = some (.slice e)) (he : P.underlying e = some (.int .u8)) (hd : P.underlying dst = some .string)
    (h : Rd w lo hi A (cells l)) : (convert src dst (.slice A l.length c)).run P w = .ok (.string ⟨l.toArray⟩) w := by
  rcases A with _ | a
  · have hl : l = [] := by
      rcases l with _ | ⟨x, r⟩
      · rfl
      · obtain ⟨ad, e, _⟩ := h.byte (k := 0) (by simp)
        cases e
    subst hl
    show (convert src dst (.slice none 0 c)).run P w = _
    rw [run_convert_bytes_string w src dst e none 0 c hs he hd]
    simp [Conv.bytesToString]
    rfl
  · refine run_convert_bytes_back w src dst e a c l hs he hd fun j hj => ?_
    obtain ⟨ad, e, hc⟩ := h.byte hj
    cases e
    exact hc

theorem own_form {w : World} {base : Nat} {e : TypeId} {v : Value} {n : Nat} {xs : List Value} (h : w.ownsRow base e 1 v n xs) : ∃ A c, v = .slice A n c := by
  rcases h.2 with ⟨rfl, rfl⟩ | ⟨g, cap, cur, rfl, _⟩
  · exact ⟨none, 0, rfl⟩
  · exact ⟨_, _, rfl⟩
theorem own_below {w w1 : World} {base B : Nat} {e : TypeId} {v : Value} {n : Nat} {xs : List Value} (h : w.ownsRow base e 1 v n xs) (hb : Below B w w1) (hB : w.heap.size ≤ B) : w1.ownsRow base e 1 v n xs := by
  refine ⟨h.1, ?_⟩
  rcases h.2 with ⟨rfl, rfl⟩ | ⟨g, cap, cur, rfl, h1, h2, h3⟩
  · exact .inl ⟨rfl, rfl⟩
  · have hlt := (h.lt g rfl).2
    exact .inr ⟨g, cap, cur, rfl, h1, (hb.block g (by omega)).trans h2, h3⟩
theorem own_ne {w : World} {b1 b2 : Nat} {e1 e2 : TypeId} {v1 v2 : Value} {n1 n2 : Nat} {x1 x2 : List Value} (h1 : w.ownsRow b1 e1 1 v1 n1 x1) (h2 : w.ownsRow b2 e2 1 v2 n2 x2) (hne : e1 ≠ e2) :
    v1.ownBlock = none ∨ v1.ownBlock ≠ v2.ownBlock := by
  rcases h1.2 with ⟨rfl, _⟩ | ⟨g, cap, cur, rfl, _, hg, _⟩
  · exact .inl rfl
  · rcases h2.2 with ⟨rfl, _⟩ | ⟨g2, cap2, cur2, rfl, _, hg2, _⟩
    · exact .inr (by simp [Value.ownBlock])
    · refine .inr fun e => ?_
      have : g = g2 := by simpa [Value.ownBlock] using e
      subst this
      rw [hg] at hg2
      injection hg2 with hg2
      injection hg2 with _ ht
      exact hne ht
theorem own_base {w : World} {b1 b2 : Nat} {e : TypeId} {v : Value} {n : Nat} {xs : List Value} (h : w.ownsRow b1 e 1 v n xs) (hb : b2 ≤ b1) : w.ownsRow b2 e 1 v n xs := by
  refine ⟨h.1, ?_⟩
  rcases h.2 with h | ⟨g, cap, cur, e, h1, h2⟩
  · exact .inl h
  · exact .inr ⟨g, cap, cur, e, by omega, h2⟩
theorem own_at {w : World} {base : Nat} {e : TypeId} {A : Option Addr} {n c j : Nat} {xs : List Value} {u : Value} (h : w.ownsRow base e 1 (.slice A n c) n xs) (hj : xs[j]? = some u) :
    ∃ g, A = some ⟨g, 0, none⟩ ∧ base ≤ g ∧ g < w.heap.size ∧ w.cell? ⟨g, j, none⟩ = some u := by
  have hk := (List.getElem?_eq_some_iff.1 hj).1
  have hl := h.1
  rcases h.2 with ⟨he, hn⟩ | ⟨g, cap, cur, he, h1, h2, _⟩
  · omega
  · injection he with e1 e2 e3
    subst e1 e3
    exact ⟨g, rfl, h1, (h.lt g rfl).2, (h.cellAt j (by omega)).trans hj⟩

/-- draws do not turn what lies below -/
theorem below_drewN' {B : Nat} {a w : World} (h : Below B a w) (n : Nat) : Below B a (w.drewN n) := ⟨h.os, h.tape, h.output, h.size, h.block⟩

/-- a list of small numbers is a list of bytes -/
theorem bytes_of (zs : List Int) (h : ∀ n ∈ zs, (Lit.int .u8 n).wf = true) : ∃ l : List UInt8, zs = l.map fun c => (c.toNat : Int) := by
  induction zs with
  | nil => exact ⟨[], rfl⟩
  | cons z r ih =>
    obtain ⟨l, hl⟩ := ih fun n hn => h n (List.mem_cons_of_mem _ hn)
    have hz := h z (List.mem_cons_self ..)
    have hb : 0 ≤ z ∧ z ≤ 255 := by
      simp [Lit.wf, IntKind.min, IntKind.max, IntKind.signed, IntKind.bits] at hz
      omega
    refine ⟨UInt8.ofNat z.toNat :: l, ?_⟩
    rw [List.map_cons, ← hl, UInt8.toNat_ofNat']
    congr 1
    omega
/-- a cell that is read lies in a block that is there -/
theorem cell_lt {w : World} {p : Addr} {u : Value} (h : w.cell? p = some u) : p.block < w.heap.size := by
  rcases Nat.lt_or_ge p.block w.heap.size with hlt | hge
  · exact hlt
  · simp [World.cell?, Array.getElem?_eq_none hge] at h
/-- a slice of bytes that came in, as the laws' frames tell of it -/
theorem row_bytes {w : World} {a : Option Addr} {len cap : Nat} {zs : List Int}
    (h : (a = none ∧ len = 0 ∧ cap = 0 ∧ zs = []) ∨
      ∃ x, a = some x ∧ len ≤ cap ∧ cap ≤ maxLen ∧ zs.length = cap ∧ (∀ i, i < zs.length → w.cell? (x.add i) = some (.int .u8 (zs.getD i 0))) ∧ ∀ n ∈ zs, (Lit.int .u8 n).wf = true) :
    ∃ l : List UInt8, l.length = len ∧ len ≤ cap ∧ cap ≤ maxLen ∧ Rd w 0 w.heap.size a (cells l) ∧ (a = none → cap = 0) := by
  rcases h with ⟨rfl, rfl, rfl, _⟩ | ⟨x, rfl, h1, h2, h3, h4, h5⟩
  · exact ⟨[], rfl, Nat.le_refl _, Nat.zero_le _, Rd.nil, fun _ => rfl⟩
  · obtain ⟨l, hl⟩ := bytes_of zs h5
    have hlen : l.length = cap := by rw [← h3, hl, List.length_map]
    refine ⟨l.take len, by rw [List.length_take]; omega, h1, h2, ?_, fun h => by cases h⟩
    intro k u hu
    have hk := (List.getElem?_eq_some_iff.1 hu).1
    rw [cells_length, List.length_take] at hk
    have hc := h4 k (by omega)
    rw [hl, List.getD_eq_getElem?_getD, List.getElem?_map, List.getElem?_eq_getElem (by omega)] at hc
    rw [cells_get _ k (by rw [List.length_take]; omega), List.getElem_take] at hu
    cases hu
    have hb := cell_lt hc
    rw [blk_add] at hb
    exact ⟨x, rfl, Nat.zero_le _, hb, hc⟩
/-- a slice of ints that came in -/
theorem row_ints {w : World} {k : IntKind} {a : Option Addr} {len cap : Nat} {zs : List Int}
    (h : (a = none ∧ len = 0 ∧ cap = 0 ∧ zs = []) ∨
      ∃ x, a = some x ∧ len ≤ cap ∧ cap ≤ maxLen ∧ zs.length = cap ∧ (∀ i, i < zs.length → w.cell? (x.add i) = some (.int k (zs.getD i 0))) ∧ ∀ n ∈ zs, (Lit.int k n).wf = true) :
    ∃ l : List Int, l.length = len ∧ len ≤ cap ∧ cap ≤ maxLen ∧ Rd w 0 w.heap.size a (l.map (Value.int k)) ∧ ∀ n ∈ l, (Lit.int k n).wf = true := by
  rcases h with ⟨rfl, rfl, rfl, _⟩ | ⟨x, rfl, h1, h2, h3, h4, h5⟩
  · exact ⟨[], rfl, Nat.le_refl _, Nat.zero_le _, Rd.nil, by simp⟩
  · refine ⟨zs.take len, by rw [List.length_take]; omega, h1, h2, ?_, fun n hn => h5 n (List.mem_of_mem_take hn)⟩
    intro j u hu
    have hj := (List.getElem?_eq_some_iff.1 hu).1
    rw [List.length_map, List.length_take] at hj
    have hc := h4 j (by omega)
    rw [List.getElem?_map, List.getElem?_take, if_pos (by omega), List.getElem?_eq_getElem (by omega)] at hu
    cases hu
    rw [List.getD_eq_getElem?_getD, List.getElem?_eq_getElem (by omega)] at hc
    have hb := cell_lt hc
    rw [blk_add] at hb
    exact ⟨x, rfl, Nat.zero_le _, hb, hc⟩
/-- what is owned fits its room -/
theorem own_cap {w : World} {base : Nat} {e : TypeId} {A : Option Addr} {n c : Nat} {xs : List Value} (h : w.ownsRow base e 1 (.slice A n c) n xs) : n ≤ c ∧ c ≤ maxLen := by
  rcases h.2 with ⟨he, hn⟩ | ⟨g, cap, cur, he, _, _, h3, h4, _⟩
  · injection he with _ _ e3
    subst e3 hn
    exact ⟨Nat.le_refl _, Nat.zero_le _⟩
  · injection he with _ _ e3
    subst e3
    exact ⟨h3, h4⟩

/-- 'append(out, xs...)', out the call's own, xs nil, empty or not -/
theorem wpList_append_rd {P : Program} {w : World} {ops : Array Oper} {rest : List Oper} {o : Oper} {a : Act} {Q : Exit → Act → World → Prop} (hgd : o.guard = none) (s x : Operand) (t : TypeId)
    (ho : o.op = .call { callee := .builtin .append, args := #[s, x], argTypes := #[t, t] })
    (base : Nat) (e : TypeId) (i : TypeInfo) (z : Value) (bytes : Nat) (ht : P.underlying t = some (.slice e)) (hi : P.info? e = some i) (hz : i.zero = some z)
    (hsize : i.size = 1) (hby : i.bytes = bytes) (hzs : z.cells.size = 1)
    (v : Value) (n : Nat) (xs : List Value) (hs : a.eval s = v) (hown : w.ownsRow base e 1 v n xs)
    (A : Option Addr) (m c : Nat) (news : List Value) (hx : a.eval x = .slice A m c) (hA : A = none → c = 0) (hl : news.length = m) {lo hi' : Nat} (hrd : Rd w lo hi' A news) (h1 : ∀ u ∈ news, u.oneCell' = true)
    (h63 : n + m ≤ maxLen) (hbytes : (n + m) * bytes ≤ 140737488355328) (hbase : base ≤ w.heap.size)
    (h : ∀ v' w', w'.ownsRow base e 1 v' (n + m) (xs ++ news) → w.grownBy w' v.ownBlock → wpList P ops Q rest (a.put o.dst v') w') : wpList P ops Q (o :: rest) a w := by
  rcases A with _ | ad
  · have e0 : news = [] := by
      rcases news with _ | ⟨u, r⟩
      · rfl
      · obtain ⟨ad, e, _⟩ := hrd 0 u rfl
        cases e
    subst e0
    have hm : m = 0 := hl.symm
    have hc : c = 0 := hA rfl
    subst hm hc
    exact wpList_append_own_none hgd s x t ho base e i 1 ht hi v n xs hs hown hx (h v w (by simpa using hown) (World.grownBy.refl w _))
  · refine wpList_append_own w hgd s x t ho base e i z 1 bytes ht hi hz hsize hby hzs (by omega) v n xs hs hown ad m c news hx (by omega) (fun j u hu => ?_) h1 h63 hbytes hbase fun v' w' h2 h3 _ => h v' w' h2 h3
    obtain ⟨ad', e', _, _, hc⟩ := hrd j u hu
    cases e'
    exact hc

/-- a literal's row, by its block's number -/
theorem own_lit (w : World) (cs : List Value) (e : TypeId) (b base n : Nat) (hb : b = w.heap.size) (hB : base ≤ w.heap.size) (hm : n ≤ maxLen) (hs : cs.length = n) : (w.alloc (.cells cs.toArray e)).ownsRow base e 1 (.slice (some ⟨b, 0, none⟩) n n) n cs := by
  subst hb
  simpa using World.ownsRow_lit (base := base) (e := e) (size := 1) w cs.toArray n hB hm (by simpa using hs)

/-- a store elsewhere -/
theorem own_set {w : World} {base : Nat} {e : TypeId} {g n c : Nat} {xs : List Value} (h : w.ownsRow base e 1 (.slice (some ⟨g, 0, none⟩) n c) n xs) (p : Addr) (u : Value) (hne : p.block ≠ g) : (w.setCell p u).ownsRow base e 1 (.slice (some ⟨g, 0, none⟩) n c) n xs :=
  h.kept (row := some p.block) ⟨rfl, rfl, rfl, by simp, fun k _ hk => heap_setCell_other w p k u (fun e => hk (by simp [e]))⟩ (.inr (by simp [Value.ownBlock]; omega))

theorem wpList_wanted {P : Program} {w : World} {ops : Array Oper} {rest : List Oper} {o : Oper} {a : Act} {Q : Exit → Act → World → Prop} (hg : Region.wanted o (yielded ops a.tmps) = true)
    (h : ∀ K : Act → World → Prop, (∀ a w, wpList P ops Q rest a w → K a w) → o.wp P a w K Q) : wpList P ops Q (o :: rest) a w :=
  wpList_step fun K hK => by rw [if_pos hg]; exact h K hK

/-- the same behind a guard that lets through -/
theorem wpList_append_rdg {P : Program} {w : World} {ops : Array Oper} {rest : List Oper} {o : Oper} {a : Act} {Q : Exit → Act → World → Prop} (hg : Region.wanted o (yielded ops a.tmps) = true) (s x : Operand) (t : TypeId)
    (ho : o.op = .call { callee := .builtin .append, args := #[s, x], argTypes := #[t, t] })
    (base : Nat) (e : TypeId) (i : TypeInfo) (z : Value) (bytes : Nat) (ht : P.underlying t = some (.slice e)) (hi : P.info? e = some i) (hz : i.zero = some z)
    (hsize : i.size = 1) (hby : i.bytes = bytes) (hzs : z.cells.size = 1)
    (v : Value) (n : Nat) (xs : List Value) (hs : a.eval s = v) (hown : w.ownsRow base e 1 v n xs)
    (A : Option Addr) (m c : Nat) (news : List Value) (hx : a.eval x = .slice A m c) (hA : A = none → c = 0) (hl : news.length = m) {lo hi' : Nat} (hrd : Rd w lo hi' A news) (h1 : ∀ u ∈ news, u.oneCell' = true)
    (h63 : n + m ≤ maxLen) (hbytes : (n + m) * bytes ≤ 140737488355328) (hbase : base ≤ w.heap.size)
    (h : ∀ v' w', w'.ownsRow base e 1 v' (n + m) (xs ++ news) → w.grownBy w' v.ownBlock → wpList P ops Q rest (a.put o.dst v') w') : wpList P ops Q (o :: rest) a w := by
  refine wpList_wanted hg fun K hK => ?_
  rcases A with _ | ad
  · have e0 : news = [] := by
      rcases news with _ | ⟨u, r⟩
      · rfl
      · obtain ⟨ad, e, _⟩ := hrd 0 u rfl
        cases e
    subst e0
    have hm : m = 0 := hl.symm
    have hc : c = 0 := hA rfl
    subst hm hc
    have hrun := run_append_owned_none (P := P) (w := w) base t o.type e i 1 ht hi v n xs hown
    unfold Oper.wp
    simp [execOp, ho, resolve, invoke, builtin, hs, hx, hrun, Result.andThen]
    exact hK _ _ (h v w (by simpa using hown) (World.grownBy.refl w _))
  · refine wp_append_own w s x t ho base e i z 1 bytes ht hi hz hsize hby hzs (by omega) v n xs hs hown ad m c news hx (by omega) (fun j u hu => ?_) h1 h63 hbytes hbase fun v' w' h2 h3 _ => hK _ _ (h v' w' h2 h3)
    obtain ⟨ad', e', _, _, hc⟩ := hrd j u hu
    cases e'
    exact hc
end Go.Proofs.Ytebflcpoecolbaa
