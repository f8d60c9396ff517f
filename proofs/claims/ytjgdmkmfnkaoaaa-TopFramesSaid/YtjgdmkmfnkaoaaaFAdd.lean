/-
  frag.Add: a piece comes. At most eight holes, every piece that is formed or a packet of its own, that ends by 1000.
-/
import Derived.Test.YtjgdmkmfnkaoaaaFLay1
import Derived.Deep.DeepCutAuto
namespace Go.Proofs.Ytjgdmkmfnkaoaaa.F
open Go.RowKit

set_option maxRecDepth 100000 in
theorem results_four {fn : Func} {p a b c : Tmp} {ty : TypeId} (h : fn.results = #[.tmp a, .cell p ty, .tmp b, .tmp c]) (tmps : Array Value) (P : Program) (w : World) :
    (results fn tmps).run P w =
      ((asAddr (tmps.getD p undef)).run P w).andThen fun ad w₁ => ((loadVar ty ad).run P w₁).andThen fun v w₂ => .ok (.tuple #[tmps.getD a undef, v, tmps.getD b undef, tmps.getD c undef]) w₂ := by
  simp only [results, h]
  simp [Sem.run_bind, Result.andThen]
set_option maxRecDepth 100000 in
theorem ret_four {P : Program} {fn : Func} {R : Ending → World → Prop} {a : Act} {w : World} {p t1 t2 t3 : Tmp} {ty : TypeId} {g : Nat} {cs : Array Value} (h : fn.results = #[.tmp t1, .cell p ty, .tmp t2, .tmp t3]) (hp : a.tmps.getD p undef = .pointer (some ⟨g, 0, none⟩))
    (hl : (loadVar ty ⟨g, 0, none⟩).run P w = .ok (.agg cs) w) (hdf : a.defers = []) (hR : R (.returned (.tuple #[a.tmps.getD t1 undef, .agg cs, a.tmps.getD t2 undef, a.tmps.getD t3 undef])) w) : bodyPost P fn R .ret a w := by
  refine bodyPost_ret (v := .tuple #[a.tmps.getD t1 undef, .agg cs, a.tmps.getD t2 undef, a.tmps.getD t3 undef]) ?_ hdf hR
  rw [results_four h, hp]
  simp only [asAddr, Sem.run_pure, Result.andThen]
  rw [hl]
set_option maxRecDepth 100000 in
/-- a struct stored amid a block -/
theorem run_storeVar_off {P : Program} (w : World) (g o : Nat) (t ty : TypeId) (cur cells : Array Value) (hg : w.heap[g]? = some (.cells cur t (0, 0))) (hi : (P.info? ty).map (·.size) = some cells.size)
    (ho : o + cells.size ≤ cur.size) (h1 : ∀ u ∈ cells.toList, u.oneCell' = true) :
    (storeVar ty ⟨g, o, none⟩ (.agg cells)).run P w = .ok () (w.setRow g (cur.toList.take o ++ cells.toList ++ cur.toList.drop (o + cells.size)).toArray) := by
  have := run_storeCells_at (P := P) g o t cells.toList 0 cur w hg (by simpa using ho) h1
  cases hq : P.info? ty with
  | none => simp [hq] at hi
  | some i =>
    have hs : cells.size = i.size := by simp [hq] at hi; omega
    simp [storeVar, sizeOf, typeInfo, hq, Value.cells, hs] at this ⊢
    exact this
def AddPost (w : World) (r : List Hk × Pk × Bool × Int) (e : Ending) (w' : World) : Prop :=
  ∃ v es, e = .returned (.tuple #[v, .agg es, .bool r.2.2.1, .int .i64 r.2.2.2]) ∧ HksT w' v r.1 ∧ PkV w' 0 w'.heap.size es r.2.1 ∧ Below w.heap.size w w'
/-- what stands while a piece comes: the piece in a block, the result's block behind it -/
def Two (w wx : World) (cs rs : Array Value) : Prop := Below w.heap.size w wx ∧ wx.heap[w.heap.size]? = some (.cells cs 60 (0, 0)) ∧ wx.heap[w.heap.size + 1]? = some (.cells rs 60 (0, 0))
theorem Two.on {w wx wy : World} {cs rs : Array Value} (h : Two w wx cs rs) (hb : Below wx.heap.size wx wy) : Two w wy cs rs :=
  ⟨h.1.trans (hb.mono h.1.size), (hb.block _ (row_lt h.2.1)).trans h.2.1, (hb.block _ (row_lt h.2.2)).trans h.2.2⟩
set_option maxRecDepth 100000 in
theorem Two.start (w : World) (cs rs : Array Value) : Two w ((w.alloc (.cells cs 60)).alloc (.cells rs 60)) cs rs := by
  refine ⟨((Below.refl _ _).alloc (Nat.le_refl _) _).alloc (by simp) _, old_alloc (heap_alloc_new w _) _, ?_⟩
  have := heap_alloc_new (w.alloc (.cells cs 60)) (.cells rs 60)
  rwa [World.size_alloc] at this
theorem Two.grownO {w wx wy : World} {cs rs : Array Value} {row : Option Nat} (h : Two w wx cs rs) (hb : wx.grownBy wy row) (hg : ∀ k, row = some k → w.heap.size + 2 ≤ k) : Two w wy cs rs :=
  ⟨h.1.grown hb h.1.size fun k hk => by have := hg k hk; omega, (hb.block _ (row_lt h.2.1) fun he => by have := hg _ he.symm; omega).trans h.2.1, (hb.block _ (row_lt h.2.2) fun he => by have := hg _ he.symm; omega).trans h.2.2⟩
theorem Two.grown {w wx wy : World} {cs rs : Array Value} {g : Nat} (h : Two w wx cs rs) (hb : wx.grownBy wy (some g)) (hg : w.heap.size + 2 ≤ g) : Two w wy cs rs := h.grownO hb fun k hk => by injection hk with hk; omega
theorem age_sub (hs : List Hk) (now : Nat) : (ageP hs now).length ≤ hs.length ∧ ∀ h ∈ ageP hs now, h ∈ hs := ⟨List.length_filter_le _ _, fun _ hh => (List.mem_filter.1 hh).1⟩

set_option maxRecDepth 100000 in
set_option maxHeartbeats 4000000 in
theorem add_whole (v : Value) (hs : List Hk) (cs : Array Value) (p : Pk) (lo hi now : Nat) (w : World) (hv : HksT w v hs) (hl : hs.length ≤ 8) (hp : PkV w lo hi cs p) (hhi : hi ≤ w.heap.size) (h0 : 0 ≤ p.off) (he : endP p ≤ 1000) (hn : now < 18446744073709551616) (hz : p.off = 0) (hm : p.more = false) :
    Calls Try.prog 26 #[v, .agg cs, .int .u64 (now : Int)] w (AddPost w (addP hs p now)) := by
  have HR : Hid (addP hs p now = (ageP hs now, p, true, 0)) := by
    show _ = _
    unfold addP
    rw [if_neg (by omega), if_pos ⟨hz, hm⟩]
  obtain ⟨o, ho⟩ := Int.eq_ofNat_of_zero_le h0
  obtain ⟨n, hdn⟩ : ∃ n, p.data.length = n := ⟨_, rfl⟩
  have hE : endP p = ((o + n : Nat) : Int) := by unfold endP; rw [ho, hdn]; simp
  obtain ⟨e, hee⟩ : ∃ e, o + n = e := ⟨_, rfl⟩
  rw [hee] at hE
  rw [hE] at he
  have he1 : e ≤ 1000 := by omega
  have c2 : cs[2]? = some (.int .i64 (o : Int)) := by rw [← ho]; exact hp.off_cell
  obtain ⟨A9, c9, c1, _, c13, hrd9, hlc9, hcm9, hA9⟩ := hp.parts
  rw [hdn] at c13 hlc9
  obtain ⟨ZP, hZP⟩ : ∃ ZP : Array Value, ZP = #[.int .u16 0, .bool false, .int .i64 0, .int .u8 0, .int .u8 0, .int .u8 0, .int .u8 0, .int .u8 0, .int .u8 0, .int .u8 0, .int .u8 0, .int .u8 0, .int .u8 0, .slice none 0 0] := ⟨_, rfl⟩
  have HZP := Lib.hid hZP
  have HP := Lib.hid hp
  have HHI := Lib.hid hhi
  have HSZ : Hid (cs.size = 14) := hp.size
  have HSZ2 : Hid (ZP.size = 14) := by show _ = _; rw [hZP]; rfl
  have HO := Lib.hid ho
  have HEE := Lib.hid hE
  have HDN := Lib.hid hdn
  have C1 := Lib.hid c1
  have C2 := Lib.hid c2
  have C13 := Lib.hid c13
  have HR9 := Lib.hid hrd9
  have HA9 := Lib.hid hA9
  have HT1 := Lib.hid (Two.start w cs ZP)
  have hag := age_any v hs now ((w.alloc (.cells cs 60)).alloc (.cells ZP 60)) (hv.below (((Below.refl _ _).alloc (Nat.le_refl _) _).alloc (by simp) _)) (by omega) hn
  have HAG := Lib.hid hag
  have hzb : ((w.alloc (.cells cs 60)).alloc (.cells ZP 60)).heap.size = w.heap.size + 2 := by simp
  obtain ⟨l1, hl1⟩ : ∃ l1, ageP hs now = l1 := ⟨_, rfl⟩
  have hll : l1.length ≤ 8 := by rw [← hl1]; exact Nat.le_trans (age_sub hs now).1 hl
  have HL1 := Lib.hid hl1
  rw [hl1, hzb] at HAG
  have HZB := Lib.hid hzb
  clear hp hhi h0 hE hdn ho c1 c2 c13 hrd9 hA9 hv hl hag hzb hl1 hcm9
  go_enter Try.func26, Try.ntmps26
  go_wp2_with fail
  rw [← hZP]
  refine HAG.out.mono ?_
  rintro e' w2 ⟨v1, rfl, hown, hb2⟩
  have HT2 := Lib.hid (HT1.out.on (by rw [HZB.out]; exact hb2))
  have HOW := Lib.hid hown
  clear hown hb2 HT1 HAG hZP
  have k2 : w2.cell? ⟨w.heap.size, 2, none⟩ = some (.int .i64 (o : Int)) := by rw [cell_of_row _ _ _ _ _ _ HT2.out.2.1]; exact C2.out
  have i0 : (0 : Int) ≤ (o : Int) := by omega
  have j0 : decide ((o : Int) < 0) = false := decide_eq_false (by omega)
  have j1 : decide ((1000 : Int) < (o : Int)) = false := decide_eq_false (by omega)
  have i1 : (o : Int) ≤ 1000 := by omega
  have i2 : (e : Int) ≤ 1000 := by omega
  go_wp2_with (refine wpList_load_rowg (by rfl) 60 _ rfl w.heap.size rfl 60 cs (0, 0) _ HT2.out.2.1 Try.underlying60 rfl (size_pk HSZ.out) ?_)
  refine (end_any cs p lo hi w2 (HP.out.below HT2.out.1 HHI.out) (by rw [HO.out]; omega) (by rw [HO.out]; omega) (by rw [HDN.out]; omega)).mono ?_
  rw [HEE.out]
  rintro e' w3 ⟨rfl, hb3⟩
  have HT3 := Lib.hid (HT2.out.on hb3)
  have HOW3 := Lib.hid (HOW.out.below hb3)
  clear hb3 HT2 HOW k2
  have k2 : w3.cell? ⟨w.heap.size, 2, none⟩ = some (.int .i64 (o : Int)) := by rw [cell_of_row _ _ _ _ _ _ HT3.out.2.1]; exact C2.out
  have k1 : w3.cell? ⟨w.heap.size, 1, none⟩ = some (.bool p.more) := by rw [cell_of_row _ _ _ _ _ _ HT3.out.2.1]; exact C1.out
  rw [hm] at k1
  have ho0 : o = 0 := by have := HO.out; rw [hz] at this; omega
  subst ho0
  have q0 := beqT (rfl : (0 : Int) = 0)
  have k13 : w3.cell? ⟨w.heap.size, 13, none⟩ = some (.slice A9 n c9) := by rw [cell_of_row _ _ _ _ _ _ HT3.out.2.1]; exact C13.out
  have hn0 : A9 = none → n = 0 := fun h => by have := HA9.out h; omega
  go_wp2_with (first | refine wpList_load_row rfl 60 _ rfl w.heap.size rfl 60 cs (0, 0) _ HT3.out.2.1 Try.underlying60 rfl (size_pk HSZ.out) ?_)
  refine (cut_any cs p false A9 p.data n c9 lo hi lo hi w3 (HP.out.below HT3.out.1 HHI.out) (HR9.out.below HT3.out.1 HHI.out) HDN.out hn0 (Nat.le_trans HHI.out HT3.out.1.size) (by omega)).mono ?_
  rintro e' w4 ⟨ds, rfl, hds, hb4⟩
  have hpe : ({ p with more := false, data := p.data } : Pk) = p := by cases p; simp at hm; subst hm; rfl
  rw [hpe] at hds
  have HT4 := Lib.hid (HT3.out.on hb4)
  have HOW4 := Lib.hid (HOW3.out.below hb4)
  have HDS := Lib.hid hds
  have HSD : Hid (ds.size = 14) := by show _ = _; have := hds.len; simpa using this
  have HON : Hid (ds.all (·.oneCell') = true) := by show _ = _; have := hds.pkV.one; simpa using this
  clear hds hb4 k1 k2 k13 hpe hn0
  go_wp2_with (first | refine wpList_store_row rfl 60 _ _ rfl (w.heap.size + 1) ds rfl rfl 60 ZP HT4.out.2.2 (size_pk HSD.out) (by rw [HSZ2.out, HSD.out]) HON.out ?_)
  (try simp only [Exit.inBlock, Exit.then])
  refine ret_four (g := w.heap.size + 1) (cs := ds) rfl rfl (load_pk (setRow_heap w4 _ _ _ _ _ HT4.out.2.2) HSD.out) rfl ?_
  rw [HR.out]
  have hb5 := below_setRow (Below.refl (w.heap.size + 1) w4) (Nat.le_refl _) ds
  have hk5 : Keeps w4 (w4.setRow (w.heap.size + 1) ds) := Keeps.other HT4.out.2.2 (by decide) fun j hj => setRow_other _ _ _ _ hj
  obtain ⟨xs, ho1, ho2⟩ := HOW4.out
  obtain ⟨A1, cc1, rfl, ho3⟩ := ownk_form ho1
  refine ⟨_, ds, rfl, ⟨A1, cc1, xs, by rw [HL1.out]; rfl, ((Tr.own ho1).wide (Nat.zero_le _)).setRow HT4.out.2.2 (by decide) _, by rw [HL1.out]; exact ho2.imp fun _ _ _ h => h.keeps hk5, by rw [HL1.out]; exact ho3⟩, ?_, below_setRow HT4.out.1 (by omega) _⟩
  obtain ⟨vv, e1, e2, e3, e4⟩ := HDS.out
  have hpt : PkT (w4.setRow (w.heap.size + 1) ds) w3.heap.size ds.toList p := ⟨vv, e1, e2, e3, e4.keeps hk5⟩
  have := hpt.pkV
  simp only [Array.toArray_toList] at this
  exact this.wide (Nat.zero_le _) (Nat.le_refl _)

/-- holes in a row of the call's own, beside the two blocks -/
structure Row1 (w wx : World) (cs rs : Array Value) (g q c : Nat) (xs : List Value) (l : List Hk) : Prop where
  own : wx.ownsRow (w.heap.size + 2) 109 14 (.slice (some ⟨g, 0, none⟩) (q + 1) c) (q + 1) xs
  row : RowOf 14 (HkT wx) xs l
  two : Two w wx cs rs
theorem Row1.on {w wx wy : World} {cs rs : Array Value} {g q c : Nat} {xs : List Value} {l : List Hk} (h : Row1 w wx cs rs g q c xs l) (hb : Below wx.heap.size wx wy) : Row1 w wy cs rs g q c xs l :=
  ⟨ownk_below h.own hb (Nat.le_refl _), h.row.imp fun _ _ _ hh => hh.keeps (Keeps.below hb (Nat.le_refl _)), h.two.on hb⟩
theorem Row1.base {w wx : World} {cs rs : Array Value} {g q c : Nat} {xs : List Value} {l : List Hk} (h : Row1 w wx cs rs g q c xs l) : w.heap.size + 2 ≤ g ∧ g < wx.heap.size := h.own.lt g rfl
set_option maxRecDepth 100000 in
theorem Row1.cells {w wx : World} {cs rs : Array Value} {g q c : Nat} {xs : List Value} {l : List Hk} (h : Row1 w wx cs rs g q c xs l) (i : Nat) : ∀ j v, ((xs.drop (i * 14)).take 14)[j]? = some v → wx.cell? ((⟨g, i * 14, none⟩ : Addr).add j) = some v := by
  have h1 := (Tr.own h.own).rd.elem (k := 14) i
  rw [Addr.add_mid, Nat.zero_add] at h1
  exact h1
theorem Row1.cells0 {w wx : World} {cs rs : Array Value} {g q c : Nat} {xs : List Value} {l : List Hk} (h : Row1 w wx cs rs g q c xs l) (i : Nat) : ∀ j v, ((xs.drop (i * 14)).take 14)[j]? = some v → wx.cell? (((⟨g, 0, none⟩ : Addr).add (i * 14)).add j) = some v := (Tr.own h.own).rd.elem (k := 14) i
theorem Row1.ones {w wx : World} {cs rs : Array Value} {g q c : Nat} {xs : List Value} {l : List Hk} (h : Row1 w wx cs rs g q c xs l) : ∀ u ∈ xs, u.oneCell' = true := h.row.one_cell (fun _ _ hh => hh.one) (by decide)
theorem hole_keeps {w w' : World} {g : Nat} {C : Array Value} (hg : w.grownBy w' (some g)) (h : w.heap[g]? = some (.cells C 109 (0, 0))) : Keeps w w' := Keeps.grown hg fun g' C' t fr he hh => by
  injection he with he
  subst he
  rw [h] at hh
  injection hh with hh
  injection hh with _ h2
  subst h2
  decide
set_option maxRecDepth 100000 in
theorem take_put {α : Type} (L es : List α) (a m : Nat) (h : a + es.length ≤ m) (hm : m ≤ L.length) : (L.take a ++ es ++ L.drop (a + es.length)).take m = (L.take m).take a ++ es ++ (L.take m).drop (a + es.length) := by
  have hX : (L.take a ++ es).length = a + es.length := by rw [List.length_append, List.length_take, Nat.min_eq_left (by omega)]
  rw [List.take_append, hX, List.take_of_length_le (by rw [hX]; exact h), List.take_take, Nat.min_eq_left (by omega), List.drop_take]
set_option maxRecDepth 100000 in
/-- the row after one hole is written anew -/
theorem Row1.put {w wx : World} {cs rs : Array Value} {g q c i : Nat} {xs es : List Value} {l : List Hk} {h2 : Hk} (h : Row1 w wx cs rs g q c xs l) (hl : l.length = q + 1) (hi : i ≤ q) (he : HkT wx es h2) (he14 : es.length = 14) {cur : Array Value} (hcl : wx.heap[g]? = some (.cells cur 109 (0, 0))) :
    Row1 w (wx.setRow g (cur.toList.take (i * 14) ++ es ++ cur.toList.drop (i * 14 + 14)).toArray) cs rs g q c (xs.take (i * 14) ++ es ++ xs.drop (i * 14 + 14)) (l.set i h2) := by
  have hb := h.base
  have hgr : wx.grownBy (wx.setRow g (cur.toList.take (i * 14) ++ es ++ cur.toList.drop (i * 14 + 14)).toArray) (some g) := grown_setRow (World.grownBy.refl _ _) _
  have hk := hole_keeps hgr hcl
  refine ⟨?_, ?_, h.two.grown hgr hb.1⟩
  · obtain ⟨hxl, h0 | ⟨g', cap, cur', he', h3, h4, h5, h6, h7, h8⟩⟩ := h.own
    · cases h0.1
    · injection he' with e1 e2 e3
      injection e1 with e1
      injection e1 with e1
      subst e1 e3
      rw [h4] at hcl
      injection hcl with hcl
      injection hcl with hcl _ _
      subst hcl
      have hcl : cur'.toList.length = c * 14 := by rw [← h7]; simp
      have hq : i * 14 + 14 ≤ (q + 1) * 14 := by omega
      have hqc : (q + 1) * 14 ≤ c * 14 := Nat.mul_le_mul_right _ h5
      refine ⟨?_, .inr ⟨g, c, _, rfl, h3, setRow_heap _ _ _ _ _ _ h4, h5, h6, ?_, ?_⟩⟩
      · simp only [List.length_append, List.length_take, List.length_drop, he14, hxl]
        omega
      · simp only [List.size_toArray, List.length_append, List.length_take, List.length_drop, he14, hcl]
        omega
      · rw [← h8]
        have := take_put cur'.toList es (i * 14) ((q + 1) * 14) (by rw [he14]; exact hq) (by rw [hcl]; exact hqc)
        rw [he14] at this
        exact this
  · refine (h.row.set (i := i) (by omega) (a := h2) he he14).imp fun _ _ _ hh => hh.keeps hk

theorem erase_set {α : Type} : ∀ (l : List α) (i : Nat) (x : α), (l.set i x).eraseIdx i = l.eraseIdx i
  | [], _, _ => rfl
  | _ :: _, 0, _ => rfl
  | a :: l, i + 1, x => congrArg (a :: ·) (erase_set l i x)
def LayV (h : Hk) (p : Pk) : Pred := fun v w => ∃ es, v = .agg es ∧ HkT w es.toList (layP h p)
theorem layv_mono (h : Hk) (p : Pk) : Mono (LayV h p) := fun _ _ _ hb ⟨es, e, hh⟩ => ⟨es, e, hh.keeps (Keeps.below hb (Nat.le_refl _))⟩
theorem layv_sg (h : Hk) (p : Pk) : StableG Keeps (LayV h p) := fun _ _ _ hk ⟨es, e, hh⟩ => ⟨es, e, hh.keeps hk⟩
set_option maxRecDepth 100000 in
theorem ownk_row_other {w : World} {base k n b0 : Nat} {e : TypeId} {v : Value} {xs : List Value} (h : w.ownsRow base e k v n xs) (hb : ∀ b, v.ownBlock = some b → b ≠ b0) (cs : Array Value) : (w.setRow b0 cs).ownsRow base e k v n xs := by
  refine ⟨h.1, ?_⟩
  rcases h.2 with h0 | ⟨g, cap, cur, he, h1, h2, h3⟩
  · exact .inl h0
  · exact .inr ⟨g, cap, cur, he, h1, (setRow_other _ _ _ _ (hb g (by rw [he]; rfl))).trans h2, h3⟩
/-- what Add has made ready: the row, the place, the hole there -/
def AddMid (w : World) (hs : List Hk) (p : Pk) (now : Nat) (cs ZP : Array Value) (t0 t10 : Value) (wx : World) : Prop :=
  ∃ (g q c i : Nat) (xs : List Value) (l : List Hk) (h : Hk), t0 = .slice (some ⟨g, 0, none⟩) (q + 1) c ∧ t10 = .int .i64 (i : Int) ∧ i ≤ q ∧ q < 8 ∧ Hid (l.length = q + 1) ∧ Hid (l[i]? = some h) ∧ Hid (addP hs p now = addAt l i h p) ∧ Hid (h.got.length < 1000) ∧ Hid (Row1 w wx cs ZP g q c xs l)

set_option maxRecDepth 100000 in
set_option maxHeartbeats 8000000 in
theorem add_part (v : Value) (hs : List Hk) (cs : Array Value) (p : Pk) (lo hi now : Nat) (w : World) (hv : HksT w v hs) (hl : hs.length ≤ 8) (hp : PkV w lo hi cs p) (hhi : hi ≤ w.heap.size) (h0 : 0 ≤ p.off) (he : endP p ≤ 1000) (hn : now < 18446744073709551616) (hgot : ∀ h ∈ hs, h.got.length < 1000) (hf : formedB p = true) (hnz : ¬ (p.off = 0 ∧ p.more = false)) :
    Calls Try.prog 26 #[v, .agg cs, .int .u64 (now : Int)] w (AddPost w (addP hs p now)) := by
  have HR : Hid (addP hs p now = match (ageP hs now).findIdx? (belongsB p) with
      | some i => addAt (ageP hs now) i ((ageP hs now).getD i (beginP p now)) p
      | none => if 8 ≤ (ageP hs now).length then (ageP hs now, Pk.zero, false, 5) else addAt (ageP hs now ++ [beginP p now]) (ageP hs now).length (beginP p now) p) := by
    have hoff : p.off ≤ 1000 := by unfold endP at he; omega
    show _ = _
    unfold addP
    rw [if_neg (by omega), if_neg hnz, if_neg (by rw [hf]; decide)]
    cases (ageP hs now).findIdx? (belongsB p) <;> rfl
  have HGO : Hid (∀ h ∈ ageP hs now, h.got.length < 1000) := fun h hh => hgot h ((age_sub hs now).2 h hh)
  have hpd : 0 < p.data.length := by
    unfold formedB at hf
    simp at hf
    have := hf.1.2
    rcases hq : p.data with _ | ⟨x, r⟩
    · exact absurd hq this
    · simp
  have HP0 : Hid (0 ≤ p.off) := h0
  have HP1 : Hid (p.off ≤ 1000) := by show _ ≤ _; unfold endP at he; omega
  have HP2 : Hid (p.data.length ≤ 1000000000) := by show _ ≤ _; unfold endP at he; omega
  have HPL : Hid (p.data.length ≤ 1000) := by show _ ≤ _; unfold endP at he; omega
  have HPE : Hid (endP p ≤ 1000) := he
  have HPD : Hid (0 < p.data.length) := hpd
  have HFM := Lib.hid hf
  have HNZ := Lib.hid hnz
  have HN64 := Lib.hid hn
  clear hf hnz hpd hgot
  obtain ⟨o, ho⟩ := Int.eq_ofNat_of_zero_le h0
  obtain ⟨n, hdn⟩ : ∃ n, p.data.length = n := ⟨_, rfl⟩
  have hE : endP p = ((o + n : Nat) : Int) := by unfold endP; rw [ho, hdn]; simp
  obtain ⟨e, hee⟩ : ∃ e, o + n = e := ⟨_, rfl⟩
  rw [hee] at hE
  rw [hE] at he
  have he1 : e ≤ 1000 := by omega
  have c2 : cs[2]? = some (.int .i64 (o : Int)) := by rw [← ho]; exact hp.off_cell
  obtain ⟨A9, c9, c1, _, c13, hrd9, hlc9, hcm9, hA9⟩ := hp.parts
  rw [hdn] at c13 hlc9
  obtain ⟨ZP, hZP⟩ : ∃ ZP : Array Value, ZP = #[.int .u16 0, .bool false, .int .i64 0, .int .u8 0, .int .u8 0, .int .u8 0, .int .u8 0, .int .u8 0, .int .u8 0, .int .u8 0, .int .u8 0, .int .u8 0, .int .u8 0, .slice none 0 0] := ⟨_, rfl⟩
  have HZP := Lib.hid hZP
  have HP := Lib.hid hp
  have HHI := Lib.hid hhi
  have HSZ : Hid (cs.size = 14) := hp.size
  have HSZ2 : Hid (ZP.size = 14) := by show _ = _; rw [hZP]; rfl
  have HO := Lib.hid ho
  have HEE := Lib.hid hE
  have HDN := Lib.hid hdn
  have C1 := Lib.hid c1
  have C2 := Lib.hid c2
  have C13 := Lib.hid c13
  have HR9 := Lib.hid hrd9
  have HA9 := Lib.hid hA9
  have HT1 := Lib.hid (Two.start w cs ZP)
  have hag := age_any v hs now ((w.alloc (.cells cs 60)).alloc (.cells ZP 60)) (hv.below (((Below.refl _ _).alloc (Nat.le_refl _) _).alloc (by simp) _)) (by omega) hn
  have HAG := Lib.hid hag
  have hzb : ((w.alloc (.cells cs 60)).alloc (.cells ZP 60)).heap.size = w.heap.size + 2 := by simp
  obtain ⟨l1, hl1⟩ : ∃ l1, ageP hs now = l1 := ⟨_, rfl⟩
  have hll : l1.length ≤ 8 := by rw [← hl1]; exact Nat.le_trans (age_sub hs now).1 hl
  have HL1 := Lib.hid hl1
  rw [hl1, hzb] at HAG
  have HZB := Lib.hid hzb
  clear hp hhi h0 hE hdn ho c1 c2 c13 hrd9 hA9 hv hl hag hzb hl1 hcm9
  go_enter Try.func26, Try.ntmps26
  go_wp2_with fail
  rw [← hZP]
  refine HAG.out.mono ?_
  rintro e' w2 ⟨v1, rfl, hown, hb2⟩
  have HT2 := Lib.hid (HT1.out.on (by rw [HZB.out]; exact hb2))
  have HOW := Lib.hid hown
  clear hown hb2 HT1 HAG hZP
  have k2 : w2.cell? ⟨w.heap.size, 2, none⟩ = some (.int .i64 (o : Int)) := by rw [cell_of_row _ _ _ _ _ _ HT2.out.2.1]; exact C2.out
  have i0 : (0 : Int) ≤ (o : Int) := by omega
  have j0 : decide ((o : Int) < 0) = false := decide_eq_false (by omega)
  have j1 : decide ((1000 : Int) < (o : Int)) = false := decide_eq_false (by omega)
  have i1 : (o : Int) ≤ 1000 := by omega
  have i2 : (e : Int) ≤ 1000 := by omega
  go_wp2_with (refine wpList_load_rowg (by rfl) 60 _ rfl w.heap.size rfl 60 cs (0, 0) _ HT2.out.2.1 Try.underlying60 rfl (size_pk HSZ.out) ?_)
  refine (end_any cs p lo hi w2 (HP.out.below HT2.out.1 HHI.out) (by rw [HO.out]; omega) (by rw [HO.out]; omega) (by rw [HDN.out]; omega)).mono ?_
  rw [HEE.out]
  rintro e' w3 ⟨rfl, hb3⟩
  have HT3 := Lib.hid (HT2.out.on hb3)
  have HOW3 := Lib.hid (HOW.out.below hb3)
  clear hb3 HT2 HOW k2
  have k2 : w3.cell? ⟨w.heap.size, 2, none⟩ = some (.int .i64 (o : Int)) := by rw [cell_of_row _ _ _ _ _ _ HT3.out.2.1]; exact C2.out
  have k1 : w3.cell? ⟨w.heap.size, 1, none⟩ = some (.bool p.more) := by rw [cell_of_row _ _ _ _ _ _ HT3.out.2.1]; exact C1.out
  rw [HL1.out] at HR HGO
  go_upto_region 4 with (fail)
  go_cut [37] (fun t37 wx => t37 = .bool false ∧ w3 = wx)
  case first =>
    by_cases hz : o = 0
    · have hmr : p.more = true := by
        cases hmm : p.more
        · exact absurd ⟨by rw [HO.out, hz]; rfl, hmm⟩ HNZ.out
        · rfl
      rw [hmr] at k1
      have q0 : ((o : Int) == 0) = true := beqT (by omega)
      go_wp2_with fail
      go_meet
      case rel => exact ⟨rfl, rfl⟩
    · have q0 : ((o : Int) == 0) = false := beqF (by omega)
      go_wp2_with fail
      go_meet
      case rel => exact ⟨rfl, rfl⟩
  case rest =>
  obtain ⟨rfl, rfl⟩ := hcut
  clear k1 k2
  go_wp2_with (first | refine wpList_load_row rfl 60 _ rfl w.heap.size rfl 60 cs (0, 0) _ HT3.out.2.1 Try.underlying60 rfl (size_pk HSZ.out) ?_)
  refine (formed_any cs p lo hi w3 (HP.out.below HT3.out.1 HHI.out) HP0.out HP1.out HP2.out).mono ?_
  rw [HFM.out]
  rintro e' w4 ⟨rfl, hb4⟩
  have HT4 := Lib.hid (HT3.out.on hb4)
  have HOW4 := Lib.hid (HOW3.out.below hb4)
  clear hb4 HT3 HOW3
  go_wp2_with fail
  refine (index_any v1 l1 cs p lo hi w.heap.size w4 HOW4.out.rd (by omega) (HP.out.below HT4.out.1 HHI.out) (Nat.le_trans HHI.out HT4.out.1.size) HT4.out.2.1).mono ?_
  rintro e' w5 ⟨rfl, hb5⟩
  have HT5 := Lib.hid (HT4.out.on hb5)
  obtain ⟨xs1, hown5, hrow5⟩ := HOW4.out.below hb5
  obtain ⟨A1, cc1, rfl, hcc⟩ := ownk_form hown5
  obtain ⟨m1, hm1⟩ : ∃ m1, l1.length = m1 := ⟨_, rfl⟩
  rw [hm1] at hown5 hll hcc ⊢
  obtain ⟨iv, hiv⟩ : ∃ iv, idxV (belongsB p) l1 = iv := ⟨_, rfl⟩
  rw [hiv]
  have HOWN := Lib.hid hown5
  have HROW := Lib.hid hrow5
  have HM1 := Lib.hid hm1
  have HIV := Lib.hid hiv
  clear hb5 hown5 hrow5 hm1 hiv HT4 HOW4
  go_upto_if 52 with (fail)
  go_cut [0, 10] (fun t0 t10 wx => AddMid w hs p now cs ZP t0 t10 wx)
  case first =>
    rcases hfi : l1.findIdx? (belongsB p) with _ | ix
    · have hiv : iv = -1 := by rw [← HIV.out]; unfold idxV; rw [hfi]
      rw [hfi] at HR
      subst hiv
      by_cases h8 : 8 ≤ m1
      · have HR2 : Hid (addP hs p now = (l1, Pk.zero, false, 5)) := by
          show _ = _
          rw [HR.out]
          exact if_pos (by rw [HM1.out]; exact h8)
        have q8 : (8 : Int) ≤ (m1 : Int) := by omega
        clear hfi HR
        go_wp2_with (first | refine wpList_store_row rfl 60 _ _ rfl (w.heap.size + 1) #[.int .u16 0, .bool false, .int .i64 0, .int .u8 0, .int .u8 0, .int .u8 0, .int .u8 0, .int .u8 0, .int .u8 0, .int .u8 0, .int .u8 0, .int .u8 0, .int .u8 0, .slice none 0 0] rfl rfl 60 ZP HT5.out.2.2 (by kernel_rfl) (by rw [HSZ2.out]; rfl) (by kernel_rfl) ?_)
        (try simp only [Exit.inBlock, Exit.then])
        refine ret_four (g := w.heap.size + 1) (cs := #[.int .u16 0, .bool false, .int .i64 0, .int .u8 0, .int .u8 0, .int .u8 0, .int .u8 0, .int .u8 0, .int .u8 0, .int .u8 0, .int .u8 0, .int .u8 0, .int .u8 0, .slice none 0 0]) rfl rfl (load_pk (setRow_heap w5 _ _ _ _ _ HT5.out.2.2) rfl) rfl ?_
        rw [HR2.out]
        have hk : Keeps w5 (w5.setRow (w.heap.size + 1) #[.int .u16 0, .bool false, .int .i64 0, .int .u8 0, .int .u8 0, .int .u8 0, .int .u8 0, .int .u8 0, .int .u8 0, .int .u8 0, .int .u8 0, .int .u8 0, .int .u8 0, .slice none 0 0]) := Keeps.other HT5.out.2.2 (by decide) fun j hj => setRow_other _ _ _ _ hj
        exact ⟨_, _, rfl, ⟨A1, cc1, xs1, by rw [HM1.out]; rfl, ((Tr.own HOWN.out).wide (Nat.zero_le _)).setRow HT5.out.2.2 (by decide) _, HROW.out.imp fun _ _ _ hh => hh.keeps hk, by rw [HM1.out]; exact hcc⟩, zero_pkV _ _ _, below_setRow HT5.out.1 (by omega) _⟩
      · have HR2 : Hid (addP hs p now = addAt (l1 ++ [beginP p now]) m1 (beginP p now) p) := by
          show _ = _
          rw [HR.out, ← HM1.out]
          exact if_neg (by rw [HM1.out]; exact h8)
        have q8 : (m1 : Int) < 8 := by omega
        clear hfi HR
        go_wp2_with (first | refine wpList_load_row rfl 60 _ rfl w.heap.size rfl 60 cs (0, 0) _ HT5.out.2.1 Try.underlying60 rfl (size_pk HSZ.out) ?_)
        refine (begin_any cs p lo hi now w5 (HP.out.below HT5.out.1 HHI.out) HN64.out).mono ?_
        rintro e' w6 ⟨ds, rfl, hds, hb6⟩
        have HT6 := Lib.hid (HT5.out.on hb6)
        have HOWN6 := Lib.hid (ownk_below HOWN.out hb6 (Nat.le_refl _))
        have HROW6 : Hid (RowOf 14 (HkT w6) xs1 l1) := HROW.out.imp fun _ _ _ hh => hh.keeps (Keeps.below hb6 (Nat.le_refl _))
        have HDS := Lib.hid hds
        have HD14 : Hid (ds.size = 14) := by show _ = _; rw [← Array.length_toList]; exact hds.len
        have hbn : Below w6.heap.size w6 (w6.alloc (.cells ds 109)) := (Below.refl _ _).alloc (Nat.le_refl _) _
        have HBN := Lib.hid hbn
        have HOWN7 := Lib.hid (ownk_below HOWN6.out hbn (Nat.le_refl _))
        obtain ⟨iH, hi0, hz0, hz1, hz2⟩ := info_parts info_hk
        clear hb6 hds hbn
        go_wp2_with (first | refine wpList_build_one rfl 61 109 _ rfl ds rfl Try.underlying61 14 (by decide) (by decide) (by kernel_rfl) HD14.out ?_ | (at_builtin; refine wpList_append_elem rfl _ _ 61 rfl (w.heap.size + 2) 109 iH _ 14 56 Try.underlying61 hi0 hz0 hz1 hz2 rfl (by decide) _ m1 xs1 rfl HOWN7.out w6.heap.size 1 ds 109 (0, 0) rfl (heap_alloc_new w6 _) HD14.out HDS.out.one (by unfold maxLen; omega) (by omega) (by have := HT6.out.1.size; have := row_lt HT6.out.2.2; simp; omega) ?_))
        intro v7 w7 hown7 hg7 hat7
        have hk6 : Keeps w6 (w6.alloc (.cells ds 109)) := Keeps.below HBN.out (Nat.le_refl _)
        have hk7 := Keeps.grown hg7 fun b C t fr hb hC => by
          have := ownk_type HOWN7.out hb hC
          subst this
          decide
        have HT7 := Lib.hid ((HT6.out.on HBN.out).grownO hg7 fun k hk => (HOWN7.out.lt k hk).1)
        obtain ⟨g, c, cur, rfl, hgb, _⟩ := ownk_some hown7 (by omega)
        have HM7 : Hid (Row1 w w7 cs ZP g m1 c (xs1 ++ ds.toList) (l1 ++ [beginP p now])) := ⟨hown7, (HROW6.out.imp fun _ _ _ hh => (hh.keeps hk6).keeps hk7).append (RowOf.one ((HDS.out.keeps hk6).keeps hk7) HDS.out.len), HT7.out⟩
        have HLN : Hid ((l1 ++ [beginP p now]).length = m1 + 1) := by show _ = _; rw [List.length_append, HM1.out]; rfl
        have HLX : Hid ((l1 ++ [beginP p now])[m1]? = some (beginP p now)) := by show _ = _; rw [← HM1.out]; simp
        have HGB : Hid ((beginP p now).got.length < 1000) := by show _ < _; exact Nat.zero_lt_succ _
        clear hown7 hg7 hat7 hk6 hk7
        go_wp2_with fail
        go_meet
        case rel => exact ⟨g, m1, c, m1, _, _, _, rfl, rfl, Nat.le_refl _, by omega, HLN, HLX, HR2, HGB, HM7⟩
    · have hiv : iv = (ix : Int) := by rw [← HIV.out]; unfold idxV; rw [hfi]
      rw [hfi] at HR
      subst hiv
      have hix : ix < l1.length := by
        have := List.findIdx?_eq_some_iff_findIdx_eq.1 hfi
        exact this.1
      have HLX : Hid (l1[ix]? = some (l1.getD ix (beginP p now))) := by
        show _ = _
        rw [List.getD_eq_getElem?_getD, List.getElem?_eq_getElem hix]
        rfl
      have HGB : Hid ((l1.getD ix (beginP p now)).got.length < 1000) := HGO.out _ (List.mem_of_getElem? HLX.out)
      rw [HM1.out] at hix
      obtain ⟨q, rfl⟩ : ∃ q, m1 = q + 1 := ⟨m1 - 1, by omega⟩
      obtain ⟨g, c, cur, hv, hgb, _⟩ := ownk_some HOWN.out (by omega)
      injection hv with hv1 _ hv3
      subst hv1 hv3
      have HM7 : Hid (Row1 w w5 cs ZP g q cc1 xs1 l1) := ⟨HOWN.out, HROW.out, HT5.out⟩
      have HR2 : Hid (addP hs p now = addAt l1 ix (l1.getD ix (beginP p now)) p) := HR.out
      clear hfi HR hgb
      go_wp2_with fail
      go_meet
      case rel => exact ⟨g, q, cc1, ix, _, _, _, rfl, rfl, by omega, by omega, HM1, HLX, HR2, HGB, HM7⟩
  case rest =>
  obtain ⟨g, q, c, i, xs, l, h, rfl, rfl, hiq, hq8, HLQ, HLI, HRA, HGL, HM⟩ := hcut
  clear HR HGO HOWN HROW HM1 HIV HT5 hcc HL1
  have hil : i < l.length := by rw [HLQ.out]; omega
  obtain ⟨hcl, hhc⟩ : ∃ hcl, (xs.drop (i * 14)).take 14 = hcl := ⟨_, rfl⟩
  have hat := HM.out.row.at_ hil
  have hli : l[i] = h := by
    have := HLI.out
    rw [List.getElem?_eq_getElem hil] at this
    exact Option.some.inj this
  rw [hhc, hli] at hat
  have HHC := Lib.hid hat
  have HCE : Hid (∀ W, Row1 w W cs ZP g q c xs l → ∀ j v, hcl[j]? = some v → W.cell? ((⟨g, i * 14, none⟩ : Addr).add j) = some v) := fun W hW => by rw [← hhc]; exact hW.cells i
  have HHX := Lib.hid hhc
  obtain ⟨ft, hft⟩ : ∃ ft, fitsB p h = ft := ⟨_, rfl⟩
  have HFT := Lib.hid hft
  clear hil hat hli hhc hft
  go_upto_region 14 with (fail)
  · skip
    apply wp_region_rely (fun _ => False) (RL [Is (.agg cs), Is _, Is _, Is (.pointer (some ⟨g, i * 14, none⟩)), Is (.agg hcl.toArray), Is (.bool ft), Is (.bool (!ft))]) [false, false, false, false, false, false, false, false, false, false, false, false, false, false, false, false, false, false, false, false, false, false, false, false, false, false, false, false, false, false, false, false, false, false, false, false, false, false, false, false, false, false, false, false, false, false, false, false, false, false, false, false, false, false, false, false, false, false, false, false, false, false, false, false, false, false, true, true, true, true, true, true, true, false, false, false, false, false, false, false, false, false, false, false, false, false, false, false, false, false, false, false, false, false, false, false, false, false, false, false, false, false, false, false, false, false, false]
    · kernel_rfl
    · kernel_rfl
    · kernel_rfl
    · refine ⟨?_, ?_, ?_, ?_, ?_, ?_, ?_, trivial⟩
      · intro ev w' hC hc hf hb hr K hK
        have e4 : ev (.tmp 4) = _ := hb 4 (by kernel_rfl)
        have HK := Lib.hid hK
        have HC := Lib.hid hC
        clear hb hr hK hC hf
        have q1 : ev (.tmp 4) = .pointer (some ⟨w.heap.size, 0, none⟩) := e4
        have hld := run_loadVar_row (P := Try.prog) w' w.heap.size 60 60 cs (0, 0) _ ((HM.out.on HC.out.belowF).two.2.1) Try.underlying60 rfl (size_pk HSZ.out)
        unfold Run
        rw [run_loadE 60 _ rfl q1 hld]
        exact HK.out _ _ (.inl (Below.refl _ _)) rfl
      · intro ev w' hC hc hf hb hr K hK
        have e0 : ev (.tmp 0) = _ := hb 0 (by kernel_rfl)
        have HK := Lib.hid hK
        have HC := Lib.hid hC
        clear hb hr hK hC hf
        unfold Run
        simp [execOp, Upon, go_sem, *]
        exact HK.out _ _ (.inl (Below.refl _ _)) rfl
      · intro ev w' hC hc hf hb hr K hK
        have e10 : ev (.tmp 10) = _ := hb 10 (by kernel_rfl)
        have HK := Lib.hid hK
        have HC := Lib.hid hC
        clear hb hr hK hC hf
        unfold Run
        simp [execOp, Upon, go_sem, *]
        exact HK.out _ _ (.inl (Below.refl _ _)) rfl
      · intro ev w' hC hc hf hb hr K hK
        have e67 := hr 1 _ rfl (by kernel_rfl)
        have e68 := hr 2 _ rfl (by kernel_rfl)
        change ev (.tmp 67) = _ at e67
        change ev (.tmp 68) = _ at e68
        have HK := Lib.hid hK
        have HC := Lib.hid hC
        clear hb hr hK hC hf
        have q1 : ev (.tmp 67) = .slice (some ⟨g, 0, none⟩) (q + 1) c := e67
        have q2 : ev (.tmp 68) = .int .i64 (i : Int) := e68
        unfold Run
        rw [run_indexE 61 _ _ rfl Try.underlying61 (size := 14) (by kernel_rfl) q1 q2 (by omega), Addr.add_mid, Nat.zero_add]
        exact HK.out _ _ (.inl (Below.refl _ _)) rfl
      · intro ev w' hC hc hf hb hr K hK
        have e69 := hr 3 _ rfl (by kernel_rfl)
        change ev (.tmp 69) = _ at e69
        have HK := Lib.hid hK
        have HC := Lib.hid hC
        clear hb hr hK hC hf
        have q1 : ev (.tmp 69) = .pointer (some ⟨g, i * 14, none⟩) := e69
        have hld := run_loadVar_any (P := Try.prog) w' ⟨g, i * 14, none⟩ 109 hcl _ (HCE.out _ (HM.out.on HC.out.belowF)) Try.underlying109 rfl (by rw [HHC.out.2]; kernel_rfl)
        unfold Run
        rw [run_loadE 109 _ rfl q1 hld]
        exact HK.out _ _ (.inl (Below.refl _ _)) rfl
      · intro ev w' hC hc hf hb hr K hK
        have e66 := hr 0 _ rfl (by kernel_rfl)
        have e70 := hr 4 _ rfl (by kernel_rfl)
        change ev (.tmp 66) = _ at e66
        change ev (.tmp 70) = _ at e70
        have HK := Lib.hid hK
        have HC := Lib.hid hC
        clear hb hr hK hC
        unfold Run
        simp [execOp, Upon, go_sem, *]
        have hm' := HM.out.on HC.out.belowF
        refine (fits_any cs hcl.toArray p h lo hi w' (HP.out.below hm'.two.1 HHI.out) (Nat.le_trans HHI.out hm'.two.1.size) HP0.out HP1.out HP2.out (by simpa using HHC.out.1.keeps (Keeps.below HC.out.belowF (Nat.le_refl _)))).mono ?_
        rw [HFT.out]
        rintro e2 w2 ⟨rfl, hb⟩
        exact ⟨_, rfl, HK.out _ _ (.inl hb) rfl⟩
      · intro ev w' hC hc hf hb hr K hK
        have e71 := hr 5 _ rfl (by kernel_rfl)
        change ev (.tmp 71) = _ at e71
        have HK := Lib.hid hK
        have HC := Lib.hid hC
        clear hb hr hK hC hf
        unfold Run
        simp [execOp, Upon, go_sem, *]
        exact HK.out _ _ (.inl (Below.refl _ _)) rfl
    · exact rl_mono ⟨is_mono _, is_mono _, is_mono _, is_mono _, is_mono _, is_mono _, is_mono _, trivial⟩
    intro us wd hG hH
    obtain ⟨-, -, -, -, -, -, h6, -⟩ := hH
    simp only [fillM]
    change us 72 = _ at h6
    rw [h6]
    clear h6
    generalize us 66 = v66
    generalize us 67 = v67
    generalize us 68 = v68
    generalize us 69 = v69
    generalize us 70 = v70
    generalize us 71 = v71
    have HMD := Lib.hid (HM.out.on hG.belowF)
    have HHD := Lib.hid (HHC.out.1.keeps (Keeps.below hG.belowF (Nat.le_refl _)))
    clear hG
    have hwi : IntKind.i64.wrap ((i : Int) + 1) = (i : Int) + 1 := IntWalk.i64_in _ ⟨by omega, by omega⟩
    rcases ft with _ | _
    · have HR2 : Hid (addP hs p now = (l.eraseIdx i, Pk.zero, false, 7)) := by
        show _ = _
        rw [HRA.out]
        unfold addAt
        rw [HFT.out]
        rfl
      go_wp2_with fail
      refine (del_any g q c i (w.heap.size + 2) xs wd HMD.out.own HMD.out.ones hiq (by omega)).mono ?_
      rintro e' w6 ⟨rfl, ho6, hg6⟩
      obtain ⟨cur, hcur⟩ := ownk_cells_of HMD.out.own (g := g) rfl
      have HK6 := Lib.hid (hole_keeps hg6 hcur)
      have HT6 := Lib.hid (HMD.out.two.grown hg6 HMD.out.base.1)
      have HO6 := Lib.hid ho6
      clear ho6 hg6 hcur
      go_wp2_with (first | refine wpList_store_row rfl 60 _ _ rfl (w.heap.size + 1) #[.int .u16 0, .bool false, .int .i64 0, .int .u8 0, .int .u8 0, .int .u8 0, .int .u8 0, .int .u8 0, .int .u8 0, .int .u8 0, .int .u8 0, .int .u8 0, .int .u8 0, .slice none 0 0] rfl rfl 60 ZP HT6.out.2.2 (by kernel_rfl) (by rw [HSZ2.out]; rfl) (by kernel_rfl) ?_)
      (try simp only [Exit.inBlock, Exit.then])
      refine ret_four (g := w.heap.size + 1) (cs := #[.int .u16 0, .bool false, .int .i64 0, .int .u8 0, .int .u8 0, .int .u8 0, .int .u8 0, .int .u8 0, .int .u8 0, .int .u8 0, .int .u8 0, .int .u8 0, .int .u8 0, .slice none 0 0]) rfl rfl (load_pk (setRow_heap w6 _ _ _ _ _ HT6.out.2.2) rfl) rfl ?_
      rw [HR2.out]
      have hk : Keeps w6 (w6.setRow (w.heap.size + 1) #[.int .u16 0, .bool false, .int .i64 0, .int .u8 0, .int .u8 0, .int .u8 0, .int .u8 0, .int .u8 0, .int .u8 0, .int .u8 0, .int .u8 0, .int .u8 0, .int .u8 0, .slice none 0 0]) := Keeps.other HT6.out.2.2 (by decide) fun j hj => setRow_other _ _ _ _ hj
      have hle : (l.eraseIdx i).length = q := by rw [List.length_eraseIdx, if_pos (by rw [HLQ.out]; omega), HLQ.out]; rfl
      obtain ⟨_, _, hv, hn1, hn2, hn3⟩ := ownk_form HO6.out
      injection hv with hv1 _ hv3
      subst hv1 hv3
      exact ⟨_, _, rfl, ⟨_, c, _, by rw [hle]; rfl, ((Tr.own HO6.out).wide (Nat.zero_le _)).setRow HT6.out.2.2 (by decide) _, (HMD.out.row.erase i).imp fun _ _ _ hh => (hh.keeps HK6.out).keeps hk, by rw [hle]; exact ⟨hn1, hn2, hn3⟩⟩, zero_pkV _ _ _, below_setRow HT6.out.1 (by omega) _⟩
    · go_upto_region 16 with (fail)
      apply wp_region_relyG [9] (fun L w' => if L 9 = true then (∃ es, es.length = 14 ∧ HkT w' es (layP h p) ∧ Row1 w w' cs ZP g q c (xs.take (i * 14) ++ es ++ xs.drop (i * 14 + 14)) (l.set i (layP h p))) else (Row1 w w' cs ZP g q c xs l ∧ Keeps wd w')) (RL [Is _, Is _, Is _, Is _, Is (.pointer (some ⟨g, i * 14, none⟩)), Is (.agg hcl.toArray), Is (.agg cs), LayV h p, Is (.pointer (some ⟨g, i * 14, none⟩)), Any]) [false, false, false, false, false, false, false, false, false, false, false, false, false, false, false, false, false, false, false, false, false, false, false, false, false, false, false, false, false, false, false, false, false, false, false, false, false, false, false, false, false, false, false, false, false, false, false, false, false, false, false, false, false, false, false, false, false, false, false, false, false, false, false, false, false, false, false, false, false, false, false, false, false, false, false, false, false, false, false, true, true, true, true, true, true, true, true, true, false, false, false, false, false, false, false, false, false, false, false, false, false, false, false, false, false, false, false]
      · kernel_rfl
      · kernel_rfl
      · kernel_rfl
      · refine ⟨?_, ?_, ?_, ?_, ?_, ?_, ?_, ?_, ?_, ?_, trivial⟩
        · intro L ev w' hC hL hx K hK
          have e0 : ev (.tmp 0) = _ := hx.base 0 (by kernel_rfl)
          have HK := Lib.hid hK
          have HC := Lib.hid hC
          have HL := Lib.hid hL
          have HX := Lib.hid hx
          have hc := hx.cst
          skip
          clear hx hK hC hL
          unfold Run
          simp [execOp, Upon, go_sem, *]
          exact HK.out _ _ (.inl ⟨Below.refl _ _, by decide⟩) rfl
        · intro L ev w' hC hL hx K hK
          have e10 : ev (.tmp 10) = _ := hx.base 10 (by kernel_rfl)
          have HK := Lib.hid hK
          have HC := Lib.hid hC
          have HL := Lib.hid hL
          have HX := Lib.hid hx
          have hc := hx.cst
          skip
          clear hx hK hC hL
          unfold Run
          simp [execOp, Upon, go_sem, *]
          exact HK.out _ _ (.inl ⟨Below.refl _ _, by decide⟩) rfl
        · intro L ev w' hC hL hx K hK
          have e0 : ev (.tmp 0) = _ := hx.base 0 (by kernel_rfl)
          have HK := Lib.hid hK
          have HC := Lib.hid hC
          have HL := Lib.hid hL
          have HX := Lib.hid hx
          have hc := hx.cst
          skip
          clear hx hK hC hL
          unfold Run
          simp [execOp, Upon, go_sem, *]
          exact HK.out _ _ (.inl ⟨Below.refl _ _, by decide⟩) rfl
        · intro L ev w' hC hL hx K hK
          have e10 : ev (.tmp 10) = _ := hx.base 10 (by kernel_rfl)
          have HK := Lib.hid hK
          have HC := Lib.hid hC
          have HL := Lib.hid hL
          have HX := Lib.hid hx
          have hc := hx.cst
          skip
          clear hx hK hC hL
          unfold Run
          simp [execOp, Upon, go_sem, *]
          exact HK.out _ _ (.inl ⟨Below.refl _ _, by decide⟩) rfl
        · intro L ev w' hC hL hx K hK
          have e81 := hx.held 2 _ rfl (by kernel_rfl)
          have e82 := hx.held 3 _ rfl (by kernel_rfl)
          change ev (.tmp 81) = _ at e81
          change ev (.tmp 82) = _ at e82
          have HK := Lib.hid hK
          have HC := Lib.hid hC
          have HL := Lib.hid hL
          have HX := Lib.hid hx
          have hc := hx.cst
          skip
          clear hx hK hC hL
          have q1 : ev (.tmp 81) = .slice (some ⟨g, 0, none⟩) (q + 1) c := e81
          have q2 : ev (.tmp 82) = .int .i64 (i : Int) := e82
          unfold Run
          rw [run_indexE 61 _ _ rfl Try.underlying61 (size := 14) (by kernel_rfl) q1 q2 (by omega), Addr.add_mid, Nat.zero_add]
          exact HK.out _ _ (.inl ⟨Below.refl _ _, by decide⟩) rfl
        · intro L ev w' hC hL hx K hK
          have e83 := hx.held 4 _ rfl (by kernel_rfl)
          change ev (.tmp 83) = _ at e83
          have HK := Lib.hid hK
          have HC := Lib.hid hC
          have HL := Lib.hid hL
          have HX := Lib.hid hx
          have hc := hx.cst
          skip
          clear hx hK hC hL
          have n9 : ¬ L 9 = true := fun h => by have := HX.out.closed 9 _ 5 rfl h (by kernel_rfl); rw [HL.out] at this; cases this
          have hC := HC.out
          rw [if_neg n9] at hC
          have q1 : ev (.tmp 83) = .pointer (some ⟨g, i * 14, none⟩) := e83
          have hld := run_loadVar_any (P := Try.prog) w' ⟨g, i * 14, none⟩ 109 hcl _ (HCE.out _ hC.1) Try.underlying109 rfl (by rw [HHC.out.2]; kernel_rfl)
          unfold Run
          rw [run_loadE 109 _ rfl q1 hld]
          exact HK.out _ _ (.inl ⟨Below.refl _ _, by decide⟩) rfl
        · intro L ev w' hC hL hx K hK
          have e4 : ev (.tmp 4) = _ := hx.base 4 (by kernel_rfl)
          have HK := Lib.hid hK
          have HC := Lib.hid hC
          have HL := Lib.hid hL
          have HX := Lib.hid hx
          have hc := hx.cst
          skip
          clear hx hK hC hL
          have n9 : ¬ L 9 = true := fun h => by have := HX.out.closed 9 _ 6 rfl h (by kernel_rfl); rw [HL.out] at this; cases this
          have hC := HC.out
          rw [if_neg n9] at hC
          have q1 : ev (.tmp 4) = .pointer (some ⟨w.heap.size, 0, none⟩) := e4
          have hld := run_loadVar_row (P := Try.prog) w' w.heap.size 60 60 cs (0, 0) _ (hC.1.two.2.1) Try.underlying60 rfl (size_pk HSZ.out)
          unfold Run
          rw [run_loadE 60 _ rfl q1 hld]
          exact HK.out _ _ (.inl ⟨Below.refl _ _, by decide⟩) rfl
        · intro L ev w' hC hL hx K hK
          have e84 := hx.held 5 _ rfl (by kernel_rfl)
          have e85 := hx.held 6 _ rfl (by kernel_rfl)
          change ev (.tmp 84) = _ at e84
          change ev (.tmp 85) = _ at e85
          have HK := Lib.hid hK
          have HC := Lib.hid hC
          have HL := Lib.hid hL
          have HX := Lib.hid hx
          have hc := hx.cst
          have hf := hx.fn
          clear hx hK hC hL
          have n9 : ¬ L 9 = true := fun h => by have := HX.out.closed 9 _ 7 rfl h (by kernel_rfl); rw [HL.out] at this; cases this
          have hC := HC.out
          rw [if_neg n9] at hC
          have HC1 := Lib.hid hC.1
          have HC2 := Lib.hid hC.2
          clear hC
          unfold Run
          simp [execOp, Upon, go_sem, *]
          refine (lay_any cs hcl.toArray p h lo hi w' (HP.out.below HC1.out.two.1 HHI.out) (Nat.le_trans HHI.out HC1.out.two.1.size) HP0.out HP1.out HPE.out HPD.out (by simpa using HHD.out.keeps HC2.out) HGL.out HPL.out).mono ?_
          rintro e2 w2 ⟨es, rfl, hes, hb⟩
          exact ⟨_, rfl, HK.out _ _ (.inl ⟨hb, by decide⟩) ⟨es, rfl, hes⟩⟩
        · intro L ev w' hC hL hx K hK
          have e79 := hx.held 0 _ rfl (by kernel_rfl)
          have e80 := hx.held 1 _ rfl (by kernel_rfl)
          change ev (.tmp 79) = _ at e79
          change ev (.tmp 80) = _ at e80
          have HK := Lib.hid hK
          have HC := Lib.hid hC
          have HL := Lib.hid hL
          have HX := Lib.hid hx
          have hc := hx.cst
          skip
          clear hx hK hC hL
          have q1 : ev (.tmp 79) = .slice (some ⟨g, 0, none⟩) (q + 1) c := e79
          have q2 : ev (.tmp 80) = .int .i64 (i : Int) := e80
          unfold Run
          rw [run_indexE 61 _ _ rfl Try.underlying61 (size := 14) (by kernel_rfl) q1 q2 (by omega), Addr.add_mid, Nat.zero_add]
          exact HK.out _ _ (.inl ⟨Below.refl _ _, by decide⟩) rfl
        · intro L ev w' hC hL hx K hK
          have e86 := hx.held 7 _ rfl (by kernel_rfl)
          have e87 := hx.held 8 _ rfl (by kernel_rfl)
          change (LayV h p : Pred) (ev (.tmp 86)) w' at e86
          change ev (.tmp 87) = _ at e87
          have HK := Lib.hid hK
          have HC := Lib.hid hC
          have HL := Lib.hid hL
          have HX := Lib.hid hx
          have hc := hx.cst
          skip
          clear hx hK hC hL
          obtain ⟨es, q86, h86⟩ := e86
          have q87 : ev (.tmp 87) = .pointer (some ⟨g, i * 14, none⟩) := e87
          have hC := HC.out
          rw [if_neg (by rw [HL.out]; decide)] at hC
          obtain ⟨cur, hcur⟩ := ownk_cells_of hC.1.own (g := g) rfl
          have hsz : es.toList.length = 14 := h86.len
          have hcs : i * 14 + es.size ≤ cur.size := by
            rcases hC.1.own.2 with h1 | ⟨g', cap, cur', he', h3, h4, h5, h6, h7, h8⟩
            · cases h1.1
            · injection he' with e1 e2 e3
              injection e1 with e1
              injection e1 with e1
              subst e1 e3
              rw [h4] at hcur
              injection hcur with hcur
              injection hcur with hcur _ _
              subst hcur
              rw [← Array.length_toList, hsz, h7]
              have : (q + 1) * 14 ≤ c * 14 := Nat.mul_le_mul_right _ h5
              omega
          have hst := run_storeVar_off (P := Try.prog) w' g (i * 14) 109 109 cur es hcur (size_hk (by rw [← Array.length_toList, hsz])) hcs h86.one
          have hput := hC.1.put HLQ.out hiq h86 hsz hcur
          have hk := hole_keeps (grown_setRow (World.grownBy.refl w' (some g)) (cur.toList.take (i * 14) ++ es.toList ++ cur.toList.drop (i * 14 + 14)).toArray) hcur
          rw [show es.size = 14 from by rw [← Array.length_toList, hsz]] at hst
          unfold Run
          rw [run_storeE 109 _ _ rfl q87 q86 hst]
          refine HK.out _ _ (.inr ⟨?_, fun j hj hlj u hr => rl_sg (S := Keeps) (ex := []) 0 (by exact ⟨.inr (is_sg _ _), .inr (is_sg _ _), .inr (is_sg _ _), .inr (is_sg _ _), .inr (is_sg _ _), .inr (is_sg _ _), .inr (is_sg _ _), .inr (layv_sg _ _), .inr (is_sg _ _), .inr (any_sg _), trivial⟩) j u _ _ rfl hk hr⟩) trivial
          exact (if_pos (show upd L 9 9 = true by simp [upd])).mpr ⟨es.toList, hsz, h86.keeps hk, hput⟩
      · exact rl_mono ⟨is_mono _, is_mono _, is_mono _, is_mono _, is_mono _, is_mono _, is_mono _, layv_mono _ _, is_mono _, any_mono, trivial⟩
      · exact fun L L' w1 he h => by rw [← he 9 (by simp)]; exact h
      · exact fun L w1 w2 hb h => by
              split at h
              · rename_i hL
                rw [if_pos hL]
                obtain ⟨es, h1, h2, h3⟩ := h
                exact ⟨es, h1, h2.keeps (Keeps.below hb (Nat.le_refl _)), h3.on hb⟩
              · rename_i hL
                rw [if_neg hL]
                exact ⟨h.1.on hb, h.2.trans (Keeps.below hb (Nat.le_refl _))⟩
      · exact by rw [if_neg (by decide)]; exact ⟨HMD.out, Keeps.refl _⟩
      · simp
      intro us wr hG hH
      obtain ⟨-, -, -, -, -, -, -, -, -, -, -⟩ := hH
      simp only [fillM]
      generalize us 79 = v79
      generalize us 80 = v80
      generalize us 81 = v81
      generalize us 82 = v82
      generalize us 83 = v83
      generalize us 84 = v84
      generalize us 85 = v85
      generalize us 86 = v86
      generalize us 87 = v87
      rw [if_pos rfl] at hG
      obtain ⟨es, hes, hes2, hm6⟩ := hG
      obtain ⟨ys, hys⟩ : ∃ ys, xs.take (i * 14) ++ es ++ xs.drop (i * 14 + 14) = ys := ⟨_, rfl⟩
      obtain ⟨l2, hl2⟩ : ∃ l2, l.set i (layP h p) = l2 := ⟨_, rfl⟩
      rw [hys, hl2] at hm6
      have HLQ2 : Hid (l2.length = q + 1) := by show _ = _; rw [← hl2, List.length_set]; exact HLQ.out
      have hil2 : i < l2.length := by rw [HLQ2.out]; omega
      have hli2 : l2[i] = layP h p := by subst hl2; simp
      have hat2 := hm6.row.at_ hil2
      obtain ⟨hd, hhd⟩ : ∃ hd, (ys.drop (i * 14)).take 14 = hd := ⟨_, rfl⟩
      rw [hhd, hli2] at hat2
      have HHD2 := Lib.hid hat2
      have HM6 := Lib.hid hm6
      have HL2 := Lib.hid hl2
      have HCE2 : Hid (∀ W, Row1 w W cs ZP g q c ys l2 → ∀ j v, hd[j]? = some v → W.cell? (((⟨g, 0, none⟩ : Addr).add (i * 14)).add j) = some v) := fun W hW => by rw [← hhd]; exact hW.cells0 i
      have HCE3 : Hid (∀ W, Row1 w W cs ZP g q c ys l2 → ∀ j v, hd[j]? = some v → W.cell? ((⟨g, i * 14, none⟩ : Addr).add j) = some v) := fun W hW => by rw [← hhd]; exact hW.cells i
      obtain ⟨wb, hwb⟩ : ∃ wb, wholeB (layP h p) = wb := ⟨_, rfl⟩
      have HWB := Lib.hid hwb
      clear hes hes2 hm6 hys hl2 hil2 hli2 hat2 hhd hwb
      go_wp2_with (first | refine wpList_load_at rfl 109 _ rfl ((⟨g, 0, none⟩ : Addr).add (i * 14)) rfl hd _ (HCE2.out _ HM6.out) Try.underlying109 rfl (by rw [HHD2.out.2]; kernel_rfl) ?_ | refine wpList_load_at rfl 109 _ rfl ⟨g, i * 14, none⟩ rfl hd _ (HCE3.out _ HM6.out) Try.underlying109 rfl (by rw [HHD2.out.2]; kernel_rfl) ?_)
      refine (whole_any hd.toArray (layP h p) wr (by simpa using HHD2.out.1)).mono ?_
      rw [HWB.out]
      rintro e' w7 ⟨rfl, hb7⟩
      have HM7 := Lib.hid (HM6.out.on hb7)
      have HHD7 := Lib.hid (HHD2.out.1.keeps (Keeps.below hb7 (Nat.le_refl _)))
      clear hb7
      rcases wb with _ | _
      · have HR2 : Hid (addP hs p now = (l2, Pk.zero, false, 0)) := by
          show _ = _
          rw [HRA.out]
          unfold addAt
          rw [HFT.out, HWB.out, ← HL2.out]
          rfl
        go_wp2_with (first | refine wpList_store_row rfl 60 _ _ rfl (w.heap.size + 1) #[.int .u16 0, .bool false, .int .i64 0, .int .u8 0, .int .u8 0, .int .u8 0, .int .u8 0, .int .u8 0, .int .u8 0, .int .u8 0, .int .u8 0, .int .u8 0, .int .u8 0, .slice none 0 0] rfl rfl 60 ZP HM7.out.two.2.2 (by kernel_rfl) (by rw [HSZ2.out]; rfl) (by kernel_rfl) ?_)
        (try simp only [Exit.inBlock, Exit.then])
        refine ret_four (g := w.heap.size + 1) (cs := #[.int .u16 0, .bool false, .int .i64 0, .int .u8 0, .int .u8 0, .int .u8 0, .int .u8 0, .int .u8 0, .int .u8 0, .int .u8 0, .int .u8 0, .int .u8 0, .int .u8 0, .slice none 0 0]) rfl rfl (load_pk (setRow_heap w7 _ _ _ _ _ HM7.out.two.2.2) rfl) rfl ?_
        rw [HR2.out]
        have hk : Keeps w7 (w7.setRow (w.heap.size + 1) #[.int .u16 0, .bool false, .int .i64 0, .int .u8 0, .int .u8 0, .int .u8 0, .int .u8 0, .int .u8 0, .int .u8 0, .int .u8 0, .int .u8 0, .int .u8 0, .int .u8 0, .slice none 0 0]) := Keeps.other HM7.out.two.2.2 (by decide) fun j hj => setRow_other _ _ _ _ hj
        obtain ⟨_, _, hv, hn1, hn2, hn3⟩ := ownk_form HM7.out.own
        injection hv with hv1 _ hv3
        subst hv1 hv3
        exact ⟨_, _, rfl, ⟨_, c, ys, by rw [HLQ2.out]; rfl, ((Tr.own HM7.out.own).wide (Nat.zero_le _)).setRow HM7.out.two.2.2 (by decide) _, HM7.out.row.imp fun _ _ _ hh => hh.keeps hk, by rw [HLQ2.out]; exact ⟨hn1, hn2, hn3⟩⟩, zero_pkV _ _ _, below_setRow HM7.out.two.1 (by omega) _⟩
      · have HR2 : Hid (addP hs p now = (l.eraseIdx i, packetP (layP h p), true, 0)) := by
          show _ = _
          rw [HRA.out]
          unfold addAt
          rw [HFT.out, HWB.out]
          rfl
        have hgp : 0 < (layP h p).got.length := by
          have := HWB.out
          unfold wholeB at this
          rcases hgg : (layP h p).got with _ | ⟨x, r⟩
          · rw [hgg] at this; cases this
          · simp
        have HEI : Hid (l2.eraseIdx i = l.eraseIdx i) := by show _ = _; rw [← HL2.out]; exact erase_set _ _ _
        obtain ⟨pk, hpk⟩ : ∃ pk, packetP (layP h p) = pk := ⟨_, rfl⟩
        go_wp2_with (first | refine wpList_load_at rfl 109 _ rfl ((⟨g, 0, none⟩ : Addr).add (i * 14)) rfl hd _ (HCE2.out _ HM7.out) Try.underlying109 rfl (by rw [HHD2.out.2]; kernel_rfl) ?_ | refine wpList_load_at rfl 109 _ rfl ⟨g, i * 14, none⟩ rfl hd _ (HCE3.out _ HM7.out) Try.underlying109 rfl (by rw [HHD2.out.2]; kernel_rfl) ?_)
        refine (packet_any hd.toArray (layP h p) w7 (by simpa using HHD7.out) hgp).mono ?_
        rw [hpk] at HR2 ⊢
        rintro e' w8 ⟨dk, rfl, hdk, hb8⟩
        have HM8 := Lib.hid (HM7.out.on hb8)
        have HDK : Hid (dk.size = 14) := by show _ = _; have := hdk.len; simpa using this
        have HDO : Hid (dk.all (·.oneCell') = true) := by show _ = _; have := hdk.pkV.one; simpa using this
        obtain ⟨bd, hbd⟩ : ∃ bd, w8.heap.size = bd := ⟨_, rfl⟩
        have HBD : Hid (bd ≠ g) := by have := HM8.out.base.2; show _ ≠ _; omega
        have HBD2 : Hid (w.heap.size + 2 ≤ bd) := by have := HM8.out.base; show _ ≤ _; omega
        obtain ⟨w9, hw9⟩ : ∃ w9, w8.alloc (.cells dk 60) = w9 := ⟨_, rfl⟩
        have hb9 : Below w8.heap.size w8 w9 := by rw [← hw9]; exact (Below.refl _ _).alloc (Nat.le_refl _) _
        have hm9 := HM8.out.on hb9
        have HG20 : Hid ((fun L w' => (if L 4 = true then w'.ownsRow (w.heap.size + 2) 109 14 (.slice (some ⟨g, 0, none⟩) q c) q (ys.take (i * 14) ++ ys.drop (i * 14 + 14)) else w'.ownsRow (w.heap.size + 2) 109 14 (.slice (some ⟨g, 0, none⟩) (q + 1) c) (q + 1) ys) ∧ RowOf 14 (HkT w') ys l2 ∧ Below w.heap.size w w' ∧ w'.heap[w.heap.size + 1]? = some (.cells (if L 7 = true then dk else ZP) 60 (0, 0)) ∧ w'.heap[bd]? = some (.cells dk 60 (0, 0)) ∧ PkT w' 0 dk.toList pk) (fun _ => false) w9) := ⟨by rw [if_neg (by decide)]; exact hm9.own, hm9.row, hm9.two.1, by rw [if_neg (by decide)]; exact hm9.two.2.2, by rw [← hw9, ← hbd]; exact heap_alloc_new w8 _, hdk.below hb9 (Nat.le_refl _)⟩
        have HBDE := Lib.hid hbd
        have HW9 := Lib.hid hw9
        clear hdk hb8 hgp hb9 hm9 hpk hbd hw9
        go_wp2_with (first | refine wpList_store_new rfl 60 _ _ rfl w8 #[.int .u16 0, .bool false, .int .i64 0, .int .u8 0, .int .u8 0, .int .u8 0, .int .u8 0, .int .u8 0, .int .u8 0, .int .u8 0, .int .u8 0, .int .u8 0, .int .u8 0, .slice none 0 0] dk rfl rfl (size_pk HDK.out) (by rw [HDK.out]; rfl) HDO.out ?_)
        rw [HW9.out, HBDE.out]
        apply wp_region_relyG [4, 7] (fun L w' => (if L 4 = true then w'.ownsRow (w.heap.size + 2) 109 14 (.slice (some ⟨g, 0, none⟩) q c) q (ys.take (i * 14) ++ ys.drop (i * 14 + 14)) else w'.ownsRow (w.heap.size + 2) 109 14 (.slice (some ⟨g, 0, none⟩) (q + 1) c) (q + 1) ys) ∧ RowOf 14 (HkT w') ys l2 ∧ Below w.heap.size w w' ∧ w'.heap[w.heap.size + 1]? = some (.cells (if L 7 = true then dk else ZP) 60 (0, 0)) ∧ w'.heap[bd]? = some (.cells dk 60 (0, 0)) ∧ PkT w' 0 dk.toList pk) (RL [Is _, Is _, Is _, Is (.int .i64 ((i : Int) + 1)), Is (.slice (some ⟨g, 0, none⟩) q c), Is (.agg dk), Is (.slice (some ⟨g, 0, none⟩) q c), Any, Is (.bool true), Is (.int .i64 0)]) [false, false, false, false, false, false, true, false, true, true, false, false, false, false, false, false, false, false, false, false, false, false, false, false, false, false, false, false, false, false, false, false, false, false, false, false, false, false, false, false, false, false, false, false, false, false, false, false, false, false, false, false, false, false, false, false, false, false, false, false, false, false, false, false, false, false, false, false, false, false, false, false, false, false, false, false, false, false, false, false, false, false, false, false, false, false, false, false, false, false, false, false, false, false, false, false, false, false, false, false, false, true, true, true, true, true, true]
        · kernel_rfl
        · kernel_rfl
        · kernel_rfl
        · refine ⟨?_, ?_, ?_, ?_, ?_, ?_, ?_, ?_, ?_, ?_, trivial⟩
          · intro L ev w' hC hL hx K hK
            have e0 : ev (.tmp 0) = _ := hx.base 0 (by kernel_rfl)
            have HK := Lib.hid hK
            have HC := Lib.hid hC
            have HL := Lib.hid hL
            have HX := Lib.hid hx
            have hc := hx.cst
            skip
            clear hx hK hC hL
            unfold Run
            simp [execOp, Upon, go_sem, *]
            exact HK.out _ _ (.inl ⟨Below.refl _ _, by decide⟩) rfl
          · intro L ev w' hC hL hx K hK
            have e10 : ev (.tmp 10) = _ := hx.base 10 (by kernel_rfl)
            have HK := Lib.hid hK
            have HC := Lib.hid hC
            have HL := Lib.hid hL
            have HX := Lib.hid hx
            have hc := hx.cst
            skip
            clear hx hK hC hL
            unfold Run
            simp [execOp, Upon, go_sem, *]
            exact HK.out _ _ (.inl ⟨Below.refl _ _, by decide⟩) rfl
          · intro L ev w' hC hL hx K hK
            have e10 : ev (.tmp 10) = _ := hx.base 10 (by kernel_rfl)
            have HK := Lib.hid hK
            have HC := Lib.hid hC
            have HL := Lib.hid hL
            have HX := Lib.hid hx
            have hc := hx.cst
            skip
            clear hx hK hC hL
            unfold Run
            simp [execOp, Upon, go_sem, *]
            exact HK.out _ _ (.inl ⟨Below.refl _ _, by decide⟩) rfl
          · intro L ev w' hC hL hx K hK
            have e103 := hx.held 2 _ rfl (by kernel_rfl)
            change ev (.tmp 103) = _ at e103
            have HK := Lib.hid hK
            have HC := Lib.hid hC
            have HL := Lib.hid hL
            have HX := Lib.hid hx
            have hc := hx.cst
            skip
            clear hx hK hC hL
            unfold Run
            simp [execOp, Upon, go_sem, *]
            exact HK.out _ _ (.inl ⟨Below.refl _ _, by decide⟩) rfl
          · intro L ev w' hC hL hx K hK
            have e101 := hx.held 0 _ rfl (by kernel_rfl)
            have e102 := hx.held 1 _ rfl (by kernel_rfl)
            have e104 := hx.held 3 _ rfl (by kernel_rfl)
            change ev (.tmp 101) = _ at e101
            change ev (.tmp 102) = _ at e102
            change ev (.tmp 104) = _ at e104
            have HK := Lib.hid hK
            have HC := Lib.hid hC
            have HL := Lib.hid hL
            have HX := Lib.hid hx
            have hc := hx.cst
            have hf := hx.fn
            clear hx hK hC hL
            have hC := HC.out
            rw [HL.out] at hC
            obtain ⟨hC1, hC2, hC3, hC4, hC5, hC6⟩ := hC
            rw [if_neg (by decide)] at hC1
            have hdel := del_any g q c i (w.heap.size + 2) ys w' hC1 (hC2.one_cell (fun _ _ hh => hh.one) (by decide)) hiq (by omega)
            obtain ⟨cur, hcur⟩ := ownk_cells_of hC1 (g := g) rfl
            have HGW : Hid (w.heap.size + 2 ≤ g) := (hC1.lt g rfl).1
            have HCU := Lib.hid hcur
            have HC2 := Lib.hid hC2
            have HC3 := Lib.hid hC3
            have HC4 := Lib.hid hC4
            have HC5 := Lib.hid hC5
            have HC6 := Lib.hid hC6
            have HDEL := Lib.hid hdel
            clear hC1 hC2 hC3 hC4 hC5 hC6 hcur hdel
            unfold Run
            simp [execOp, Upon, go_sem, *]
            refine HDEL.out.mono ?_
            rintro e2 w2 ⟨rfl, ho2, hg2⟩
            have hk2 := hole_keeps hg2 HCU.out
            refine ⟨_, rfl, HK.out _ _ (.inr ⟨⟨?_, ?_, ?_, ?_, ?_, ?_⟩, fun j hj hlj u hr => rl_sg (S := fun _ _ => True) (ex := []) 0 (by exact ⟨.inr (is_sg _ _), .inr (is_sg _ _), .inr (is_sg _ _), .inr (is_sg _ _), .inr (is_sg _ _), .inr (is_sg _ _), .inr (is_sg _ _), .inr (any_sg _), .inr (is_sg _ _), .inr (is_sg _ _), trivial⟩) j u _ _ rfl trivial hr⟩) rfl⟩
            · rw [if_pos (by simp [upd])]
              exact ho2
            · exact HC2.out.imp fun _ _ _ hh => hh.keeps hk2
            · exact HC3.out.grown hg2 HC3.out.size fun k hk => by injection hk with hk; have := HGW.out; omega
            · have h7 : upd L 4 7 = L 7 := rfl
              rw [h7]
              exact (hg2.block _ (row_lt HC4.out) (fun he => by injection he with he; have := HGW.out; omega)).trans HC4.out
            · exact (hg2.block _ (row_lt HC5.out) (fun he => by injection he with he; exact HBD.out he)).trans HC5.out
            · obtain ⟨vv, e1, e2, e3, e4⟩ := HC6.out
              exact ⟨vv, e1, e2, e3, e4.keeps hk2⟩
          · intro L ev w' hC hL hx K hK
            have e11 : ev (.tmp 11) = _ := hx.base 11 (by kernel_rfl)
            have HK := Lib.hid hK
            have HC := Lib.hid hC
            have HL := Lib.hid hL
            have HX := Lib.hid hx
            have hc := hx.cst
            skip
            clear hx hK hC hL
            have q1 : ev (.tmp 11) = .pointer (some ⟨bd, 0, none⟩) := e11
            have hld := run_loadVar_row (P := Try.prog) w' bd 60 60 dk (0, 0) _ HC.out.2.2.2.2.1 Try.underlying60 rfl (size_pk HDK.out)
            unfold Run
            rw [run_loadE 60 _ rfl q1 hld]
            exact HK.out _ _ (.inl ⟨Below.refl _ _, by decide⟩) rfl
          · intro L ev w' hC hL hx K hK
            have e105 := hx.held 4 _ rfl (by kernel_rfl)
            change ev (.tmp 105) = _ at e105
            have HK := Lib.hid hK
            have HC := Lib.hid hC
            have HL := Lib.hid hL
            have HX := Lib.hid hx
            have hc := hx.cst
            skip
            clear hx hK hC hL
            unfold Run
            simp [execOp, Upon, go_sem, *]
            exact HK.out _ _ (.inl ⟨Below.refl _ _, by decide⟩) rfl
          · intro L ev w' hC hL hx K hK
            have e7 : ev (.tmp 7) = _ := hx.base 7 (by kernel_rfl)
            have e106 := hx.held 5 _ rfl (by kernel_rfl)
            change ev (.tmp 106) = _ at e106
            have HK := Lib.hid hK
            have HC := Lib.hid hC
            have HL := Lib.hid hL
            have HX := Lib.hid hx
            have hc := hx.cst
            skip
            clear hx hK hC hL
            have q1 : ev (.tmp 7) = .pointer (some ⟨w.heap.size + 1, 0, none⟩) := e7
            have q2 : ev (.tmp 106) = .agg dk := e106
            have hC := HC.out
            rw [HL.out] at hC
            obtain ⟨hC1, hC2, hC3, hC4, hC5, hC6⟩ := hC
            rw [if_neg (by decide)] at hC4
            have hst := run_storeVar_row (P := Try.prog) w' (w.heap.size + 1) 60 60 ZP dk hC4 (size_pk HDK.out) (by rw [HSZ2.out, HDK.out]) (by have := hC6.pkV.one; simpa using this)
            have hk2 : Keeps w' (w'.setRow (w.heap.size + 1) dk) := Keeps.other hC4 (by decide) fun j hj => setRow_other _ _ _ _ hj
            unfold Run
            rw [run_storeE 60 _ _ rfl q1 q2 hst]
            refine HK.out _ _ (.inr ⟨⟨?_, ?_, ?_, ?_, ?_, ?_⟩, fun j hj hlj u hr => rl_sg (S := fun _ _ => True) (ex := []) 0 (by exact ⟨.inr (is_sg _ _), .inr (is_sg _ _), .inr (is_sg _ _), .inr (is_sg _ _), .inr (is_sg _ _), .inr (is_sg _ _), .inr (is_sg _ _), .inr (any_sg _), .inr (is_sg _ _), .inr (is_sg _ _), trivial⟩) j u _ _ rfl trivial hr⟩) trivial
            · have h4 : upd L 7 4 = L 4 := rfl
              rw [h4]
              split at hC1
              · rename_i hL
                rw [if_pos hL]
                exact ownk_row_other hC1 (fun b hb => by have := (hC1.lt b hb).1; omega) _
              · rename_i hL
                rw [if_neg hL]
                exact ownk_row_other hC1 (fun b hb => by have := (hC1.lt b hb).1; omega) _
            · exact hC2.imp fun _ _ _ hh => hh.keeps hk2
            · exact below_setRow hC3 (by omega) _
            · rw [if_pos (by simp [upd])]
              exact setRow_heap _ _ _ _ _ _ hC4
            · exact (setRow_other _ _ _ _ (by have := HBD2.out; omega)).trans hC5
            · obtain ⟨vv, e1, e2, e3, e4⟩ := hC6
              exact ⟨vv, e1, e2, e3, e4.keeps hk2⟩
          · intro L ev w' hC hL hx K hK
            have HK := Lib.hid hK
            have HC := Lib.hid hC
            have HL := Lib.hid hL
            have HX := Lib.hid hx
            have hc := hx.cst
            skip
            clear hx hK hC hL
            unfold Run
            simp [execOp, Upon, go_sem, *]
            exact HK.out _ _ (.inl ⟨Below.refl _ _, by decide⟩) rfl
          · intro L ev w' hC hL hx K hK
            have HK := Lib.hid hK
            have HC := Lib.hid hC
            have HL := Lib.hid hL
            have HX := Lib.hid hx
            have hc := hx.cst
            skip
            clear hx hK hC hL
            unfold Run
            simp [execOp, Upon, go_sem, *]
            exact HK.out _ _ (.inl ⟨Below.refl _ _, by decide⟩) rfl
        · exact rl_mono ⟨is_mono _, is_mono _, is_mono _, is_mono _, is_mono _, is_mono _, is_mono _, any_mono, is_mono _, is_mono _, trivial⟩
        · exact fun L L' w1 he h => by rw [← he 4 (by simp), ← he 7 (by simp)]; exact h
        · exact fun L w1 w2 hb h => by
              obtain ⟨h1, h2, h3, h4, h5, h6⟩ := h
              have hk := Keeps.below hb (Nat.le_refl w1.heap.size)
              refine ⟨?_, h2.imp fun _ _ _ hh => hh.keeps hk, h3.trans (hb.mono h3.size), (hb.block _ (row_lt h4)).trans h4, (hb.block _ (row_lt h5)).trans h5, h6.below hb (Nat.le_refl _)⟩
              split at h1
              · rename_i hL
                rw [if_pos hL]
                exact ownk_below h1 hb (Nat.le_refl _)
              · rename_i hL
                rw [if_neg hL]
                exact ownk_below h1 hb (Nat.le_refl _)
        · exact HG20.out
        · simp
        intro us wz hG hH
        obtain ⟨-, -, -, -, -, -, h6, -, h8, h9, -⟩ := hH
        simp only [fillM]
        change us 6 = _ at h6
        rw [h6]
        clear h6
        change us 8 = _ at h8
        rw [h8]
        clear h8
        change us 9 = _ at h9
        rw [h9]
        clear h9
        generalize us 101 = v101
        generalize us 102 = v102
        generalize us 103 = v103
        generalize us 104 = v104
        generalize us 105 = v105
        generalize us 106 = v106
        obtain ⟨z1, z2, z3, z4, z5, z6⟩ := hG
        rw [if_pos rfl] at z1 z4
        have Z1 := Lib.hid z1
        have Z2 := Lib.hid z2
        have Z3 := Lib.hid z3
        have Z4 := Lib.hid z4
        have Z6 := Lib.hid z6
        clear z1 z2 z3 z4 z5 z6
        go_wp2_with fail
        (try simp only [Exit.inBlock, Exit.then])
        refine ret_four (g := w.heap.size + 1) (cs := dk) rfl rfl (load_pk Z4.out HDK.out) rfl ?_
        rw [HR2.out]
        have hle : (l.eraseIdx i).length = q := by rw [List.length_eraseIdx, if_pos (by rw [HLQ.out]; omega), HLQ.out]; rfl
        obtain ⟨_, _, hv, hn1, hn2, hn3⟩ := ownk_form Z1.out
        injection hv with hv1 _ hv3
        subst hv1 hv3
        have hz6 := Z6.out.pkV
        simp only [Array.toArray_toList] at hz6
        have hz2 := Z2.out.erase i
        rw [HEI.out] at hz2
        exact ⟨_, _, rfl, ⟨_, c, _, by rw [hle]; rfl, (Tr.own Z1.out).wide (Nat.zero_le _), hz2, by rw [hle]; exact ⟨hn1, hn2, hn3⟩⟩, hz6, Z3.out⟩
end Go.Proofs.Ytjgdmkmfnkaoaaa.F
