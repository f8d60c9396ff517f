/-
  Data as Go values read them, slices in structs in slices: one predicate for any depth (Rv), over a set of blocks; what keeps it; how arguments read. No condition.
-/
import Derived.Test.YtebflcpoecolbaaElem
namespace Go.Proofs.Ytebflcpoecolbaa
open Go.RowKit

/-- plain data: a value of one cell that leads nowhere, or a row of n elements of k cells each -/
inductive Dat where
  | val (v : Value)
  | row (k n : Nat) (es : List Dat)
/-- cells that are read in blocks of S -/
def RdS (w : World) (S : Nat → Prop) (A : Option Addr) (us : List Value) : Prop :=
  ∀ (j : Nat) u, us[j]? = some u → ∃ a, A = some a ∧ S a.block ∧ w.cell? (a.add j) = some u
/-- a value that reads as data -/
inductive Rv (w : World) (S : Nat → Prop) : Value → Dat → Prop
  | val {v : Value} (h : v.oneCell' = true) : Rv w S v (.val v)
  | row {A : Option Addr} {n c k : Nat} {es : List Dat} (us : List Value) (hl : us.length = n * k) (he : us.length = es.length) (hA : A = none → c = 0) (hc : n ≤ c) (hm : c ≤ maxLen) (hr : RdS w S A us)
      (h : ∀ (j : Nat) u d, us[j]? = some u → es[j]? = some d → Rv w S u d) : Rv w S (.slice A n c) (.row k n es)
/-- cells that read as data -/
def Rvs (w : World) (S : Nat → Prop) (us : List Value) (ds : List Dat) : Prop := us.length = ds.length ∧ ∀ (j : Nat) u d, us[j]? = some u → ds[j]? = some d → Rv w S u d
/-- all blocks ahead of one -/
def Lt (n : Nat) : Nat → Prop := fun b => b < n
section
variable {w w' : World} {S S' : Nat → Prop} {v : Value} {d : Dat} {A : Option Addr} {us vs : List Value} {ds es : List Dat}
theorem RdS.nil : RdS w S A [] := by intro j u h; simp at h
theorem RdS.keep (h : RdS w S A us) (hk : ∀ p : Addr, S p.block → w'.cell? p = w.cell? p) (hs : ∀ b, S b → S' b) : RdS w' S' A us := fun j u hj => by
  obtain ⟨a, e, h1, h2⟩ := h j u hj
  exact ⟨a, e, hs _ h1, (hk _ (by rw [blk_add]; exact h1)).trans h2⟩
theorem Rv.one (h : Rv w S v d) : v.oneCell' = true := by
  cases h with
  | val h => exact h
  | row => rfl
theorem Rv.keep (h : Rv w S v d) (hk : ∀ p : Addr, S p.block → w'.cell? p = w.cell? p) (hs : ∀ b, S b → S' b) : Rv w' S' v d := by
  induction h with
  | val h => exact .val h
  | row us hl he hA hc hm hr _ ih => exact .row us hl he hA hc hm (hr.keep hk hs) fun j u d h1 h2 => ih j u d h1 h2
theorem Rvs.keep (h : Rvs w S us ds) (hk : ∀ p : Addr, S p.block → w'.cell? p = w.cell? p) (hs : ∀ b, S b → S' b) : Rvs w' S' us ds := ⟨h.1, fun j u d h1 h2 => (h.2 j u d h1 h2).keep hk hs⟩
theorem keep_below {B : Nat} (hb : Below B w w') (hS : ∀ b, S b → b < B) : ∀ p : Addr, S p.block → w'.cell? p = w.cell? p := fun _ hp => hb.cell (hS _ hp)
theorem keep_blocks (h : ∀ b, S b → w'.heap[b]? = w.heap[b]?) : ∀ p : Addr, S p.block → w'.cell? p = w.cell? p := fun p hp => World.cell?_of_block (h p.block hp)
theorem Rv.wide (h : Rv w S v d) (hs : ∀ b, S b → S' b) : Rv w S' v d := h.keep (fun _ _ => rfl) hs
theorem Rvs.wide (h : Rvs w S us ds) (hs : ∀ b, S b → S' b) : Rvs w S' us ds := h.keep (fun _ _ => rfl) hs
theorem Rv.kept {B : Nat} (h : Rv w S v d) (hb : Below B w w') (hS : ∀ b, S b → b < B) : Rv w' S v d := h.keep (keep_below hb hS) fun _ h => h
theorem Rvs.kept {B : Nat} (h : Rvs w S us ds) (hb : Below B w w') (hS : ∀ b, S b → b < B) : Rvs w' S us ds := h.keep (keep_below hb hS) fun _ h => h
theorem Rv.alloc (h : Rv w S v d) (o : Obj) (hS : ∀ b, S b → b < w.heap.size) : Rv (w.alloc o) S v d := h.kept ((Below.refl _ _).alloc (Nat.le_refl _) o) hS
theorem Rvs.alloc (h : Rvs w S us ds) (o : Obj) (hS : ∀ b, S b → b < w.heap.size) : Rvs (w.alloc o) S us ds := h.kept ((Below.refl _ _).alloc (Nat.le_refl _) o) hS
theorem Rv.setRow (h : Rv w S v d) {g : Nat} (hg : ¬ S g) (cs : Array Value) : Rv (w.setRow g cs) S v d := h.keep (keep_blocks fun b hb => setRow_other w g b cs fun e => hg (e ▸ hb)) fun _ h => h
theorem Rvs.setRow (h : Rvs w S us ds) {g : Nat} (hg : ¬ S g) (cs : Array Value) : Rvs (w.setRow g cs) S us ds := h.keep (keep_blocks fun b hb => setRow_other w g b cs fun e => hg (e ▸ hb)) fun _ h => h
theorem Rv.setCell (h : Rv w S v d) {p : Addr} (hg : ¬ S p.block) (u : Value) : Rv (w.setCell p u) S v d := h.keep (keep_blocks fun b hb => heap_setCell_other w p b u fun e => hg (e ▸ hb)) fun _ h => h
/-- a plain value -/
theorem rv_val {u : Value} : Rv w S v (.val u) ↔ v = u ∧ u.oneCell' = true := by
  constructor
  · intro h
    cases h with
    | val h => exact ⟨rfl, h⟩
  · rintro ⟨rfl, h⟩
    exact .val h
theorem rv_row {k n : Nat} : Rv w S v (.row k n es) ↔ ∃ A c us, v = .slice A n c ∧ us.length = n * k ∧ us.length = es.length ∧ (A = none → c = 0) ∧ n ≤ c ∧ c ≤ maxLen ∧ RdS w S A us ∧ ∀ (j : Nat) u d, us[j]? = some u → es[j]? = some d → Rv w S u d := by
  constructor
  · intro h
    cases h with
    | row us hl he hA hc hm hr h => exact ⟨_, _, us, rfl, hl, he, hA, hc, hm, hr, h⟩
  · rintro ⟨A, c, us, rfl, hl, he, hA, hc, hm, hr, h⟩
    exact .row us hl he hA hc hm hr h
theorem rvs_nil : Rvs w S [] [] := ⟨rfl, by simp⟩
theorem rvs_cons {u : Value} : Rvs w S (u :: us) (d :: ds) ↔ Rv w S u d ∧ Rvs w S us ds := by
  constructor
  · rintro ⟨h1, h2⟩
    exact ⟨h2 0 u d rfl rfl, by simpa using h1, fun j u d ha hb => h2 (j + 1) u d (by simpa using ha) (by simpa using hb)⟩
  · rintro ⟨h1, h2, h3⟩
    refine ⟨by simp [h2], fun j x y hx hy => ?_⟩
    cases j with
    | zero => simp at hx hy; rw [← hx, ← hy]; exact h1
    | succ j => exact h3 j x y (by simpa using hx) (by simpa using hy)
theorem rvs_append (h1 : us.length = ds.length) : Rvs w S (us ++ vs) (ds ++ es) ↔ Rvs w S us ds ∧ Rvs w S vs es := by
  induction us generalizing ds with
  | nil =>
    cases ds with
    | nil => simp [rvs_nil]
    | cons => simp at h1
  | cons u us ih =>
    cases ds with
    | nil => simp at h1
    | cons d ds => rw [List.cons_append, List.cons_append, rvs_cons, rvs_cons, ih (by simpa using h1), and_assoc]
theorem Rvs.ones (h : Rvs w S us ds) : ∀ u ∈ us, u.oneCell' = true := fun u hu => by
  obtain ⟨j, hj, rfl⟩ := List.mem_iff_getElem.1 hu
  exact (h.2 j _ _ (List.getElem?_eq_getElem hj) (List.getElem?_eq_getElem (by rw [← h.1]; exact hj))).one
/-- cells that are just what they are -/
theorem rvs_vals (h1 : ∀ u ∈ us, u.oneCell' = true) : Rvs w S us (us.map .val) := ⟨by simp, fun j u d hu hd => by
  rw [List.getElem?_map, hu] at hd
  simp at hd
  subst hd
  exact .val (h1 u (List.mem_of_getElem? hu))⟩
theorem rvs_vals_inv {xs : List Value} (h : Rvs w S us (xs.map .val)) : us = xs := by
  refine List.ext_getElem? fun j => ?_
  have hl : us.length = xs.length := by simpa using h.1
  by_cases hj : j < us.length
  · have h2 := List.getElem?_eq_getElem (l := xs) (i := j) (by omega)
    have := h.2 j _ (.val xs[j]) (List.getElem?_eq_getElem hj) (by rw [List.getElem?_map, h2]; rfl)
    rw [List.getElem?_eq_getElem hj, h2, (rv_val.1 this).1]
  · rw [List.getElem?_eq_none (by omega), List.getElem?_eq_none (by omega)]
end

/-! ### rows of any elements -/
def rowsD {α : Type} (k : Nat) (f : α → List Dat) (K : List α) : Dat := .row k K.length (K.flatMap f)
section
variable {α : Type} {k : Nat} {f : α → List Dat} {w w' : World} {S S' : Nat → Prop} {v : Value} {K : List α}
theorem flat_len (hf : ∀ a ∈ K, (f a).length = k) : (K.flatMap f).length = K.length * k := by
  induction K with
  | nil => simp
  | cons a K ih => rw [List.flatMap_cons, List.length_append, hf a (List.mem_cons_self ..), ih (fun b hb => hf b (List.mem_cons_of_mem _ hb)), List.length_cons, Nat.add_one_mul]; omega
theorem flat_at (hf : ∀ a ∈ K, (f a).length = k) {i : Nat} {a : α} (h : K[i]? = some a) (j : Nat) (hj : j < k) : (K.flatMap f)[i * k + j]? = (f a)[j]? := by
  induction K generalizing i with
  | nil => simp at h
  | cons b K ih =>
    rw [List.flatMap_cons]
    cases i with
    | zero =>
      simp at h
      subst h
      rw [Nat.zero_mul, Nat.zero_add, List.getElem?_append_left (by rw [hf b (List.mem_cons_self ..)]; exact hj)]
    | succ i =>
      rw [List.getElem?_append_right (by rw [hf b (List.mem_cons_self ..), Nat.add_one_mul]; omega), hf b (List.mem_cons_self ..), show (i + 1) * k + j - k = i * k + j from by rw [Nat.add_one_mul]; omega]
      exact ih (fun c hc => hf c (List.mem_cons_of_mem _ hc)) (by simpa using h)
/-- an element of a row: its cells, where they lie -/
theorem rv_elem (hf : ∀ a ∈ K, (f a).length = k) (hv : Rv w S v (rowsD k f K)) : ∃ A c, v = .slice A K.length c ∧ (A = none → c = 0) ∧ K.length ≤ c ∧ c ≤ maxLen ∧
    ∀ (i : Nat) a, K[i]? = some a → 0 < k → ∃ ad, A = some ad ∧ S ad.block ∧ ∃ cs : Array Value, cs.size = k ∧ Rvs w S cs.toList (f a) ∧ ∀ (j : Nat) u, cs[j]? = some u → w.cell? ((ad.add (i * k)).add j) = some u := by
  obtain ⟨A, c, us, rfl, hl, he, hA, hc, hm, hr, h⟩ := rv_row.1 hv
  refine ⟨A, c, rfl, hA, hc, hm, fun i a ha hk => ?_⟩
  have hi := (List.getElem?_eq_some_iff.1 ha).1
  have hlt : ∀ j, j < k → i * k + j < us.length := fun j hj => by
    rw [hl]
    calc i * k + j < i * k + k := by omega
      _ = (i + 1) * k := by rw [Nat.add_one_mul]
      _ ≤ K.length * k := Nat.mul_le_mul_right _ hi
  obtain ⟨ad, rfl, hS, _⟩ := hr (i * k + 0) _ (List.getElem?_eq_getElem (hlt 0 hk))
  have hfa := hf a (List.mem_of_getElem? ha)
  have hlen : (((us.drop (i * k)).take k).toArray : Array Value).size = k := by
    have := hlt (k - 1) (by omega)
    simp only [List.size_toArray, List.length_take, List.length_drop]
    omega
  have hat : ∀ j u, ((us.drop (i * k)).take k)[j]? = some u → j < k ∧ us[i * k + j]? = some u := fun j u hu => by
    rw [List.getElem?_take] at hu
    split at hu
    · rename_i hj
      rw [List.getElem?_drop] at hu
      exact ⟨hj, hu⟩
    · cases hu
  refine ⟨ad, rfl, hS, ((us.drop (i * k)).take k).toArray, hlen, ⟨?_, ?_⟩, ?_⟩
  · rw [hfa]
    simpa using hlen
  · intro j u d hu hd
    obtain ⟨hj, hu⟩ := hat j u (by simpa using hu)
    exact h _ u d hu (by rw [flat_at hf ha j hj]; exact hd)
  · intro j u hu
    obtain ⟨hj, hu⟩ := hat j u (by simpa using hu)
    obtain ⟨ad', e, _, hc⟩ := hr _ u hu
    cases e
    rw [add_twice]
    exact hc
/-- plain elements -/
theorem rv_plain {g : α → Array Value} (E : El g k) : Rv w S v (rowsD k (fun a => (g a).toList.map .val) K) ↔ ∃ A c, v = .slice A K.length c ∧ RdS w S A (rowsOf g K) ∧ (A = none → c = 0) ∧ K.length ≤ c ∧ c ≤ maxLen := by
  have hm : K.flatMap (fun a => (g a).toList.map Dat.val) = (rowsOf g K).map .val := by
    unfold rowsOf
    rw [List.map_flatMap]
  constructor
  · intro h
    obtain ⟨A, c, us, rfl, hl, he, hA, hc, hmx, hr, h⟩ := rv_row.1 h
    rw [hm] at he h
    have := rvs_vals_inv (w := w) (S := S) ⟨he, h⟩
    subst this
    exact ⟨A, c, rfl, hr, hA, hc, hmx⟩
  · rintro ⟨A, c, rfl, hr, hA, hc, hmx⟩
    unfold rowsD
    rw [hm]
    exact .row _ (rows_length E K) (by simp) hA hc hmx hr (rvs_vals (rows_ones E K)).2
/-- a row of one's own -/
theorem rv_own {base n : Nat} {e : TypeId} {us : List Value} (_hf : ∀ a ∈ K, (f a).length = k) (ho : w.ownsRow base e k v n us) (hn : K.length = n) (hu : Rvs w S us (K.flatMap f)) (hS : ∀ b, v.ownBlock = some b → S b) : Rv w S v (rowsD k f K) := by
  subst hn
  have hrd : ∀ A c, v = .slice A K.length c → RdS w S A us := fun A c e j u hj => by
    subst e
    obtain ⟨g, o, C, rfl, _, hg, hC⟩ := Tr.own ho j u hj
    refine ⟨_, rfl, hS g rfl, ?_⟩
    rw [Addr.add_mid, cell_of_row _ _ _ _ _ _ hg]
    exact hC
  obtain ⟨A, c, rfl, h1, h2, h3⟩ := ownk_form ho
  exact .row us ho.1 hu.1 h3 h1 h2 (hrd A c rfl) hu.2
end

/-! ### bytes -/
def bytesD (l : List UInt8) : Dat := rowsD 1 (fun c : UInt8 => [.val (.int .u8 (c.toNat : Int))]) l
def u8A (c : UInt8) : Array Value := #[.int .u8 (c.toNat : Int)]
theorem u8E : El u8A 1 := ⟨fun _ => rfl, fun a => by simp [u8A, Value.oneCell']⟩
theorem u8_rows (l : List UInt8) : rowsOf u8A l = cells l := by
  unfold rowsOf cells
  induction l with
  | nil => rfl
  | cons b l ih => rw [List.flatMap_cons, ih]; rfl
section
variable {w w' : World} {S S' : Nat → Prop} {v : Value} {l : List UInt8}
theorem rv_bytes : Rv w S v (bytesD l) ↔ ∃ A c, v = .slice A l.length c ∧ RdS w S A (cells l) ∧ (A = none → c = 0) ∧ l.length ≤ c ∧ c ≤ maxLen := by
  rw [← u8_rows]
  exact rv_plain u8E
theorem RdS.rd {A : Option Addr} {us : List Value} {lo hi : Nat} (h : RdS w S A us) (hs : ∀ b, S b → lo ≤ b ∧ b < hi) : Rd w lo hi A us := fun j u hj => by
  obtain ⟨a, e, h1, h2⟩ := h j u hj
  exact ⟨a, e, (hs _ h1).1, (hs _ h1).2, h2⟩
theorem RdS.of {A : Option Addr} {us : List Value} {lo hi : Nat} (h : Rd w lo hi A us) (hs : ∀ b, lo ≤ b → b < hi → S b) : RdS w S A us := fun j u hj => by
  obtain ⟨a, e, h1, h2, h3⟩ := h j u hj
  exact ⟨a, e, hs _ h1 h2, h3⟩
end

/-! ### arguments -/
/-- data of that make read as something of α -/
def Dec {α : Type} (s : Sh) (f : α → List Dat) (P : α → Prop) : Prop := ∀ (w : World) cs, s.ok w cs → ∃ a, Rvs w (Lt w.heap.size) cs (f a) ∧ P a
theorem dec_num (k : IntKind) : Dec (.num k) (fun n : Int => [.val (.int k n)]) (fun n => (Lit.int k n).wf = true) := fun w cs h => by
  obtain ⟨n, rfl, hn⟩ := h
  exact ⟨n, rvs_cons.2 ⟨.val rfl, rvs_nil⟩, hn⟩
theorem dec_bit : Dec .bit (fun b : Bool => [.val (.bool b)]) (fun _ => True) := fun w cs h => by
  obtain ⟨b, rfl⟩ := h
  exact ⟨b, rvs_cons.2 ⟨.val rfl, rvs_nil⟩, trivial⟩
theorem dec_str : Dec .str (fun s : ByteArray => [.val (.string s)]) (fun s => s.size ≤ 140737488351232) := fun w cs h => by
  obtain ⟨s, rfl, hs⟩ := h
  exact ⟨s, rvs_cons.2 ⟨.val rfl, rvs_nil⟩, hs⟩
theorem dec_non : Dec .non (fun _ : Unit => []) (fun _ => True) := fun w cs h => by
  have h : cs = [] := h
  subst h
  exact ⟨(), rvs_nil, trivial⟩
theorem dec_cat {α β : Type} {a b : Sh} {f : α → List Dat} {g : β → List Dat} {P : α → Prop} {Q : β → Prop} (ha : Dec a f P) (hb : Dec b g Q) : Dec (.cat a b) (fun x : α × β => f x.1 ++ g x.2) (fun x => P x.1 ∧ Q x.2) := fun w cs h => by
  obtain ⟨c1, c2, rfl, h1, h2⟩ := h
  obtain ⟨x, hx, hp⟩ := ha w c1 h1
  obtain ⟨y, hy, hq⟩ := hb w c2 h2
  exact ⟨(x, y), (rvs_append hx.1).2 ⟨hx, hy⟩, hp, hq⟩
theorem dec_map {α β : Type} {s : Sh} {f : α → List Dat} {g : β → List Dat} {P : α → Prop} {Q : β → Prop} (h : Dec s f P) (m : α → β) (hg : ∀ a, P a → g (m a) = f a) (hQ : ∀ a, P a → Q (m a)) : Dec s g Q := fun w cs hc => by
  obtain ⟨a, h1, h2⟩ := h w cs hc
  exact ⟨m a, by rw [hg a h2]; exact h1, hQ a h2⟩
theorem dec_sl {α : Type} {s : Sh} {f : α → List Dat} {P : α → Prop} (hd : Dec s f P) {k : Nat} (hk : s.size = k) (_hk0 : 0 < k) : Dec (.sl s) (fun K : List α => [rowsD k f K]) (fun K => (∀ a ∈ K, (f a).length = k) ∧ (∀ a ∈ K, P a) ∧ K.length ≤ 140737488351232) := fun w cs h => by
  rcases h with rfl | ⟨ad, len, cap, rfl, h1, h2, h3⟩
  · exact ⟨[], rvs_cons.2 ⟨.row [] (by simp) rfl (fun _ => rfl) (Nat.le_refl _) (Nat.zero_le _) RdS.nil (by simp), rvs_nil⟩, by simp⟩
  · rw [hk] at h3
    have h5 : ∀ n, n ≤ len → ∃ K : List α, ∃ us : List Value, K.length = n ∧ us.length = n * k ∧ us.length = (K.flatMap f).length ∧ (∀ (j : Nat) u, us[j]? = some u → w.cell? (ad.add j) = some u) ∧ (∀ (j : Nat) u d, us[j]? = some u → (K.flatMap f)[j]? = some d → Rv w (Lt w.heap.size) u d) ∧ (∀ a ∈ K, (f a).length = k) ∧ ∀ a ∈ K, P a := by
      intro n
      induction n with
      | zero => intro _; exact ⟨[], [], rfl, by simp, rfl, by simp, by simp, by simp, by simp⟩
      | succ n ih =>
        intro hn
        obtain ⟨K, us, e1, e2, e3, e4, e5, e6, e7⟩ := ih (by omega)
        obtain ⟨c, hc, hcc, hco⟩ := h3 n (by omega)
        obtain ⟨a, hra, hpa⟩ := hd w c hco
        refine ⟨K ++ [a], us ++ c, by simp [e1], by rw [List.length_append, e2, hc, Nat.add_one_mul], by rw [List.flatMap_append, List.length_append, List.length_append, e3, hra.1]; simp, ?_, ?_, ?_, ?_⟩
        · intro j u hu
          rcases Nat.lt_or_ge j us.length with hj | hj
          · rw [List.getElem?_append_left hj] at hu
            exact e4 j u hu
          · rw [List.getElem?_append_right hj] at hu
            have := hcc _ u hu
            rwa [e2, show n * k + (j - n * k) = j from by omega] at this
        · have : Rvs w (Lt w.heap.size) (us ++ c) ((K ++ [a]).flatMap f) := by
            rw [List.flatMap_append]
            refine (rvs_append e3).2 ⟨⟨e3, e5⟩, ?_⟩
            simpa using hra
          exact this.2
        · intro b hb
          rcases List.mem_append.1 hb with hb | hb
          · exact e6 b hb
          · simp at hb
            subst hb
            rw [← hra.1, hc]
        · intro b hb
          rcases List.mem_append.1 hb with hb | hb
          · exact e7 b hb
          · simp at hb
            subst hb
            exact hpa
    obtain ⟨K, us, e1, e2, e3, e4, e5, e6, e7⟩ := h5 len (Nat.le_refl _)
    subst e1
    refine ⟨K, rvs_cons.2 ⟨.row us e2 e3 (by simp) h1 (by unfold maxLen; omega) (fun j u hu => ⟨ad, rfl, ?_, e4 j u hu⟩) e5, rvs_nil⟩, e6, e7, by omega⟩
    have := cell_lt (e4 j u hu)
    rwa [blk_add] at this
theorem u8_wf {n : Int} (h : (Lit.int .u8 n).wf = true) : ∃ c : UInt8, (c.toNat : Int) = n := by
  obtain ⟨l, hl⟩ := bytes_of [n] (by simpa using h)
  rcases l with _ | ⟨c, _ | ⟨_, _⟩⟩
  · simp at hl
  · simp at hl
    exact ⟨c, hl.symm⟩
  · simp at hl
theorem dec_byte : Dec (.num .u8) (fun c : UInt8 => [.val (.int .u8 (c.toNat : Int))]) (fun _ => True) := fun w cs h => by
  obtain ⟨n, rfl, hn⟩ := h
  obtain ⟨c, rfl⟩ := u8_wf hn
  exact ⟨c, rvs_cons.2 ⟨.val rfl, rvs_nil⟩, trivial⟩
theorem dec_bytes : Dec (.sl (.num .u8)) (fun l : List UInt8 => [bytesD l]) (fun l => l.length ≤ 140737488351232) := fun w cs h => by
  obtain ⟨l, h1, _, _, h2⟩ := dec_sl dec_byte (k := 1) rfl (by omega) w cs h
  exact ⟨l, h1, h2⟩
end Go.Proofs.Ytebflcpoecolbaa
