/-
  The code's pieces and states in rows of the call's own: what is read in blocks of its own type; bytes.Clone and slices.Clone. No condition.
-/
import Derived.Test.YtdgfhcojmfgimaaRqf
import Derived.Laws.CopyOwn
import Derived.Lib.AppendZeros
namespace Go.Proofs.Ytdgfhcojmfgimaa
open Go.RowKit

/-- bytes in rows of bytes, from block lo on -/
def TB (w : World) (lo : Nat) (l : List UInt8) (v : Value) : Prop := ∃ A c, v = .slice A l.length c ∧ Tr w lo 5 A (cells l) ∧ l.length ≤ c ∧ c ≤ maxLen ∧ (A = none → c = 0)
/-- cells that read as a piece -/
def PcT (lo : Nat) (w : World) (cs : List Value) (p : Pc) : Prop := ∃ v, cs = [.int .u32 p.seq, v] ∧ TB w lo p.data v
/-- a slice that reads as pieces -/
def PcsT (lo : Nat) (w : World) (v : Value) (ps : List Pc) : Prop := ∃ A c xs, v = .slice A ps.length c ∧ Tr w lo 55 A xs ∧ RowOf 2 (PcT lo w) xs ps ∧ ps.length ≤ c ∧ c ≤ maxLen ∧ (A = none → c = 0)
/-- cells that read as a state: its bytes in a row of the call's own from block lo on, ahead of lo2, its pieces from block lo2 on -/
def RqT (lo lo2 : Nat) (w : World) (cs : Array Value) (q : Rq) : Prop := ∃ vD vA, cs = rqC q vD vA ∧ w.ownsRow lo 5 1 vD q.data.length (cells q.data) ∧ (∀ g, vD.ownBlock = some g → g < lo2) ∧ PcsT lo2 w vA q.ahead
/-- what a world keeps: its rows of bytes and of pieces -/
def Keeps (w w' : World) : Prop := ∀ (g : Nat) (C : Array Value) (e : TypeId), (e = 5 ∨ e = 55) → w.heap[g]? = some (.cells C e (0, 0)) → w'.heap[g]? = some (.cells C e (0, 0))
section
variable {w w' w2 : World} {lo : Nat} {l : List UInt8} {v : Value} {cs : List Value} {p : Pc} {ps : List Pc} {q : Rq}
theorem Keeps.refl (w : World) : Keeps w w := fun _ _ _ _ h => h
theorem Keeps.trans (h : Keeps w w') (h2 : Keeps w' w2) : Keeps w w2 := fun g C e he hg => h2 g C e he (h g C e he hg)
theorem Keeps.below {B : Nat} (hb : Below B w w') (hB : w.heap.size ≤ B) : Keeps w w' := fun g C _ _ hg => (hb.block g (by have := row_lt hg; omega)).trans hg
theorem Keeps.other {g : Nat} {C : Array Value} {t : TypeId} {fr : Nat × Nat} (hg : w.heap[g]? = some (.cells C t fr)) (ht : t ≠ 5 ∧ t ≠ 55) (h : ∀ k, k ≠ g → w'.heap[k]? = w.heap[k]?) : Keeps w w' := fun k D e he hh => by
  refine (h k fun hk => ?_).trans hh
  subst hk
  rw [hg] at hh
  injection hh with hh
  injection hh with _ h2
  rcases he with rfl | rfl
  · exact ht.1 h2
  · exact ht.2 h2
theorem TB.keep (h : TB w lo l v) (hk : ∀ A, Tr w lo 5 A (cells l) → Tr w' lo 5 A (cells l)) : TB w' lo l v := by
  obtain ⟨A, c, e, h1, h2⟩ := h
  exact ⟨A, c, e, hk A h1, h2⟩
theorem TB.below {B : Nat} (h : TB w lo l v) (hb : Below B w w') (hB : w.heap.size ≤ B) : TB w' lo l v := h.keep fun _ h => h.below hb hB
theorem TB.wide {lo' : Nat} (h : TB w lo l v) (hl : lo' ≤ lo) : TB w lo' l v := by
  obtain ⟨A, c, e, h1, h2⟩ := h
  exact ⟨A, c, e, h1.wide hl, h2⟩
theorem TB.keeps (h : TB w lo l v) (hk : Keeps w w') : TB w' lo l v := h.keep fun _ hA => hA.keep fun g C _ hg => (hk g C _ (.inl rfl) hg).trans hg.symm
theorem TB.one (h : TB w lo l v) : v.oneCell' = true := by
  obtain ⟨A, c, rfl, _⟩ := h
  rfl
theorem TB.rv (h : TB w lo l v) : Rv w (fun b => lo ≤ b) v (bytesD l) := by
  obtain ⟨A, c, rfl, h1, h2, h3, h4⟩ := h
  exact rv_bytes.2 ⟨A, c, rfl, RdS.of h1.rd (fun b hb _ => hb), h4, h2, h3⟩
theorem tb_nil : TB w lo [] (.slice none 0 0) := ⟨none, 0, rfl, Tr.nil, Nat.le_refl _, Nat.zero_le _, fun _ => rfl⟩
theorem PcT.keeps (h : PcT lo w cs p) (hk : Keeps w w') : PcT lo w' cs p := by
  obtain ⟨v, e, h1⟩ := h
  exact ⟨v, e, h1.keeps hk⟩
theorem PcT.len (h : PcT lo w cs p) : cs.length = 2 := by
  obtain ⟨v, rfl, _⟩ := h
  rfl
theorem PcT.one (h : PcT lo w cs p) : ∀ u ∈ cs, u.oneCell' = true := by
  obtain ⟨v, rfl, h⟩ := h
  intro u hu
  simp at hu
  rcases hu with rfl | rfl
  · rfl
  · exact h.one
theorem PcsT.keeps (h : PcsT lo w v ps) (hk : Keeps w w') : PcsT lo w' v ps := by
  obtain ⟨A, c, xs, e, h1, h2, h3⟩ := h
  exact ⟨A, c, xs, e, h1.keep fun g C _ hg => (hk g C _ (.inr rfl) hg).trans hg.symm, h2.imp fun _ _ _ h => h.keeps hk, h3⟩
theorem PcsT.one (h : PcsT lo w v ps) : v.oneCell' = true := by
  obtain ⟨A, c, xs, rfl, _⟩ := h
  rfl
theorem pcs_nil : PcsT lo w (.slice none 0 0) [] := ⟨none, 0, [], rfl, Tr.nil, RowOf.nil, Nat.le_refl _, Nat.zero_le _, fun _ => rfl⟩
theorem ownb_keeps {base n j : Nat} {v : Value} {e : TypeId} {xs : List Value} (he : e = 5 ∨ e = 55) (h : w.ownsRow base e j v n xs) (hk : Keeps w w') : w'.ownsRow base e j v n xs := by
  refine ⟨h.1, ?_⟩
  rcases h.2 with h | ⟨g, cap, cur, e, h1, h2, h3⟩
  · exact .inl h
  · exact .inr ⟨g, cap, cur, e, h1, hk g cur _ he h2, h3⟩
theorem own_tb {base : Nat} {v : Value} (h : w.ownsRow base 5 1 v l.length (cells l)) : TB w base l v := by
  obtain ⟨A, c, rfl, h1, h2, h3⟩ := ownk_form h
  exact ⟨A, c, rfl, Tr.own h, h1, h2, h3⟩
theorem RqT.keeps {lo2 : Nat} {cs : Array Value} (h : RqT lo lo2 w cs q) (hk : Keeps w w') : RqT lo lo2 w' cs q := by
  obtain ⟨vD, vA, e, h1, h0, h2⟩ := h
  exact ⟨vD, vA, e, ownb_keeps (.inl rfl) h1 hk, h0, h2.keeps hk⟩
theorem rowof_rvs {S : Nat → Prop} (hS : ∀ b, lo ≤ b → S b) : ∀ (ps : List Pc) (xs : List Value), RowOf 2 (PcT lo w) xs ps → Rvs w S xs (ps.flatMap pcD)
  | [], xs, h => by
    have : xs = [] := List.eq_nil_of_length_eq_zero (by simpa using h.1)
    subst this
    exact rvs_nil
  | p :: ps, xs, h => by
    have h0 := (h.at_ (i := 0) (by simp)).1
    have hd := h.drop 1
    simp only [Nat.zero_mul, List.drop_zero, List.getElem_cons_zero, Nat.one_mul, List.drop_succ_cons] at h0 hd
    obtain ⟨v, e, hv⟩ := h0
    have he : xs = [.int .u32 p.seq, v] ++ xs.drop 2 := by rw [← e]; simp
    rw [he, List.flatMap_cons]
    exact (rvs_append rfl).2 ⟨rvs_cons.2 ⟨.val rfl, rvs_cons.2 ⟨hv.rv.wide hS, rvs_nil⟩⟩, rowof_rvs hS ps _ hd⟩
theorem PcsT.rv (h : PcsT lo w v ps) : Rv w (fun b => lo ≤ b) v (rowsD 2 pcD ps) := by
  obtain ⟨A, c, xs, rfl, h1, h2, h3, h4, h5⟩ := h
  have hv := rowof_rvs (S := fun b => lo ≤ b) (fun _ h => h) ps xs h2
  exact .row xs h2.1 hv.1 h5 h3 h4 (RdS.of h1.rd fun b hb _ => hb) hv.2
theorem RqT.rv {lo2 : Nat} {cs : Array Value} (h : RqT lo lo2 w cs q) (hl : lo ≤ lo2) : Rvs w (fun b => lo ≤ b) cs.toList (rqD q) := by
  obtain ⟨vD, vA, rfl, h1, _, h2⟩ := h
  exact rq_make (own_tb h1).rv (h2.rv.wide fun b hb => Nat.le_trans hl hb)
theorem RqT.ones {lo2 : Nat} {cs : Array Value} (h : RqT lo lo2 w cs q) (hl : lo ≤ lo2) : cs.all (·.oneCell') = true := by
  exact Array.all_eq_true_iff_forall_mem.2 fun u hu => (h.rv hl).ones u (by simpa using hu)
end
theorem rqc_ones {q : Rq} {vD vA : Value} (h1 : vD.oneCell' = true) (h2 : vA.oneCell' = true) : (rqC q vD vA).all (·.oneCell') = true := Array.all_eq_true_iff_forall_mem.2 fun u hu => by
  simp only [rqC, List.mem_toArray, List.mem_cons, List.not_mem_nil, or_false] at hu
  rcases hu with rfl | rfl | rfl | rfl | rfl | rfl
  · rfl
  · exact h1
  · exact h2
  · rfl
  · rfl
  · rfl
theorem info_pc : (Try.prog.info? 55).map (fun i => (i.zero, i.size, i.bytes)) = some (some (.agg #[.int .u32 0, .slice none 0 0]), 2, 32) := by kernel_rfl
theorem size_pc {cs : Array Value} (h : cs.size = 2) : (Try.prog.info? 55).map (·.size) = some cs.size := by
  rw [h]
  kernel_rfl
theorem size_rq {cs : Array Value} (h : cs.size = 6) : (Try.prog.info? 29).map (·.size) = some cs.size := by
  rw [h]
  kernel_rfl
theorem pc_parts : ∃ i0, Try.prog.info? 55 = some i0 ∧ i0.zero = some (.agg #[.int .u32 0, .slice none 0 0]) ∧ i0.size = 2 ∧ i0.bytes = 32 := parts_of info_pc
theorem u8_parts : ∃ i0, Try.prog.info? 5 = some i0 ∧ i0.zero = some (.int .u8 0) ∧ i0.size = 1 ∧ i0.bytes = 1 := parts_of info_u8

/-- bytes.Clone -/
theorem bclone_any (v : Value) (l : List UInt8) (S : Nat → Prop) (w : World) (h : Rv w S v (bytesD l)) (hm : l.length ≤ 1000000) :
    Calls Try.prog 23 #[v] w fun e w' => ∃ v', e = .returned v' ∧ w'.ownsRow w.heap.size 5 1 v' l.length (cells l) ∧ Below w.heap.size w w' := by
  obtain ⟨A, c, rfl, h1, h2, h3, h4⟩ := rv_bytes.1 (rv_tight h)
  obtain ⟨n, hn⟩ : ∃ n, l.length = n := ⟨_, rfl⟩
  rw [hn] at h3 hm ⊢
  obtain ⟨i0, hi0, hz0, hz1, hz2⟩ := u8_parts
  have HR := Lib.hid (RdS.rd h1 (fun _ h => ⟨Nat.zero_le _, h.2⟩))
  have HN := Lib.hid hn
  have hnil := Lib.run_eql_slice_nil (P := Try.prog) w 26 5 A n c 0 0 Try.underlying26
  rcases A with _ | ad
  · have HL : Hid (l = []) := List.eq_nil_of_length_eq_zero (HN.out.trans (by have := h2 rfl; omega))
    clear h h1 h2 h3 h4 hn
    go_enter Try.func23, Try.ntmps23
    go_wp2
    go_ret
    exact ⟨_, rfl, by rw [← HN.out, HL.out]; exact World.ownsRow_nil _ _ _ _, Below.refl _ _⟩
  · clear h h1 h2 h3 h4 hn
    go_enter Try.func23, Try.ntmps23
    go_wp2_with (at_builtin; refine wpList_append_rd rfl _ _ 26 rfl w.heap.size 5 i0 (.int .u8 0) 1 Try.underlying26 hi0 hz0 hz1 hz2 rfl _ _ _ rfl (own_lit _ [] _ _ w.heap.size 0 (by simp) (by simp) (by unfold maxLen; omega) rfl) (some ad) n c (cells l) rfl (fun h => by cases h) (by rw [cells_length]; exact HN.out) ((HR.out.alloc (Nat.le_refl _) _)) (cells_one l) (by unfold maxLen; omega) (by omega) (by simp) ?_)
    intro v2 w2 hown2 hgrow2
    have HB : Hid (Below w.heap.size w w2) := ((Below.refl w.heap.size w).alloc (Nat.le_refl _) _).grown hgrow2 (by simp) fun g hg => by simp [Value.ownBlock] at hg; omega
    have HO : Hid (w2.ownsRow w.heap.size 5 1 v2 n (cells l)) := hown2
    clear hown2 hgrow2
    go_wp2
    go_ret
    exact ⟨_, rfl, HO.out, HB.out⟩
/-- slices.Clone of pieces: their bytes are where they were -/
theorem pclone_any (A : Option Addr) (n c hi : Nat) (xs : List Value) (w : World) (h : Rd w 0 hi A xs) (hhi : hi ≤ w.heap.size) (hx : xs.length = n * 2) (h1 : ∀ u ∈ xs, u.oneCell' = true) (hA : A = none → c = 0) (hn : n ≤ c) (hm : n ≤ 100000) :
    Calls Try.prog 34 #[.slice A n c] w fun e w' => ∃ v, e = .returned v ∧ w'.ownsRow w.heap.size 55 2 v n xs ∧ Below w.heap.size w w' := by
  obtain ⟨i0, hi0, hz0, hz1, hz2⟩ := pc_parts
  have HR := Lib.hid h
  have HX := Lib.hid hx
  have H1X := Lib.hid h1
  have hnil := Lib.run_eql_slice_nil (P := Try.prog) w 27 55 A n c 0 0 Try.underlying27
  rcases A with _ | ad
  · have HL : Hid (xs = [] ∧ n = 0) := by
      have hn0 : n = 0 := by have := hA rfl; omega
      refine ⟨List.eq_nil_of_length_eq_zero ?_, hn0⟩
      rw [HX.out, hn0]
    clear hA h hx h1 hn
    go_enter Try.func34, Try.ntmps34
    go_wp2
    go_ret
    exact ⟨_, rfl, by rw [HL.out.1, HL.out.2]; exact World.ownsRow_nil _ _ _ _, Below.refl _ _⟩
  · clear hA h hx h1 hn
    have HOW : Hid ((w.alloc (.cells #[] 55)).ownsRow w.heap.size 55 2 (.slice (some ⟨w.heap.size, 0, none⟩) 0 0) 0 []) := World.ownsRow_lit (base := w.heap.size) (e := 55) (size := 2) w #[] 0 (Nat.le_refl _) (Nat.zero_le _) rfl
    have HRX := Lib.hid ((HR.out.alloc hhi (.cells #[] 55)).wide (lo' := 0) (hi' := w.heap.size + 1) (Nat.le_refl _) (by omega))
    have hz3 : (Value.agg #[.int .u32 0, .slice none 0 0]).cells.size = 2 := rfl
    go_enter Try.func34, Try.ntmps34
    go_wp2_with (at_builtin; refine wpList_append_rdk (P := Try.prog) rfl _ _ 27 rfl w.heap.size 55 i0 _ 2 32 Try.underlying27 hi0 hz0 hz1 hz2 hz3 (by omega) _ 0 [] rfl HOW.out (some ad) n c xs rfl (fun h => by cases h) HX.out (by simpa using HRX.out) H1X.out (by unfold maxLen; omega) (by omega) (by simp) ?_)
    intro v2 w2 hown2 hgrow2 _
    have HB : Hid (Below w.heap.size w w2) := ((Below.refl w.heap.size w).alloc (Nat.le_refl _) _).grown hgrow2 (by simp) fun g hg => by simp [Value.ownBlock] at hg; omega
    have HO : Hid (w2.ownsRow w.heap.size 55 2 v2 n xs) := hown2
    clear hown2 hgrow2
    go_wp2
    go_ret
    exact ⟨_, rfl, HO.out, HB.out⟩
end Go.Proofs.Ytdgfhcojmfgimaa
