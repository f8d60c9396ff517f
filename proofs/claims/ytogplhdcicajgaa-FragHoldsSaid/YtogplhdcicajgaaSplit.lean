/-
  frag.Split: ErrArg of a piece, ErrLong of more than 1000 bytes, else the packet in pieces, each with its own memory. Every packet that can be read.
-/
import Derived.Test.YtogplhdcicajgaaSmall
import Derived.Test.YtogplhdcicajgaaRelyG
namespace Go.Proofs.Ytogplhdcicajgaa
open Go.RowKit

/-- a packet's piece -/
def pieceP (p : Pk) (i : Nat) : Pk := { p with off := ((176 * i : Nat) : Int), more := decide (176 * (i + 1) < p.data.length), data := (p.data.drop (176 * i)).take 176 }
/-- how many pieces -/
def piecesN (n : Nat) : Nat := if n ≤ 176 then 1 else (n + 175) / 176
def splitL (p : Pk) (k : Nat) : List Pk := (List.range k).map (pieceP p)
/-- what Split answers -/
def splitP (p : Pk) : List Pk × Int := if p.off ≠ 0 ∨ p.more = true then ([], 1) else if 1000 < p.data.length then ([], 4) else (splitL p (piecesN p.data.length), 0)
theorem splitL_succ (p : Pk) (k : Nat) : splitL p (k + 1) = splitL p k ++ [pieceP p k] := by simp [splitL, List.range_succ]
theorem splitL_length (p : Pk) (k : Nat) : (splitL p k).length = k := by simp [splitL]

theorem info_pk : (Try.prog.info? 27).map (fun i => (i.zero, i.size, i.bytes)) = some (some (.agg #[.int .u16 0, .bool false, .int .i64 0, .int .u8 0, .int .u8 0, .int .u8 0, .int .u8 0, .int .u8 0, .int .u8 0, .int .u8 0, .int .u8 0, .int .u8 0, .int .u8 0, .slice none 0 0]), 14, 56) := by kernel_rfl

/-- packets that the call owns, from block lo on -/
def OwnPks (w : World) (lo : Nat) (v : Value) (ps : List Pk) : Prop := ∃ xs, w.ownsRow lo 27 14 v ps.length xs ∧ RowOf 14 (PkT w lo) xs ps
section
variable {w w' : World} {lo : Nat} {cs : List Value} {p : Pk}
theorem TB.alloc {l : List UInt8} {v : Value} (h : TB w lo l v) (o : Obj) : TB (w.alloc o) lo l v := h.keep fun _ h => h.alloc o
theorem TB.grown {l : List UInt8} {v : Value} {row : Option Nat} (h : TB w lo l v) (hg : w.grownBy w' row) (hr : ∀ g C t fr, row = some g → w.heap[g]? = some (.cells C t fr) → t ≠ 5) : TB w' lo l v := h.keep fun _ h => h.grown hg hr
theorem PkT.alloc (h : PkT w lo cs p) (o : Obj) : PkT (w.alloc o) lo cs p := by
  obtain ⟨v, e, h1, h2, h3⟩ := h
  exact ⟨v, e, h1, h2, h3.alloc o⟩
theorem PkT.grown {row : Option Nat} (h : PkT w lo cs p) (hg : w.grownBy w' row) (hr : ∀ g C t fr, row = some g → w.heap[g]? = some (.cells C t fr) → t ≠ 5) : PkT w' lo cs p := by
  obtain ⟨v, e, h1, h2, h3⟩ := h
  exact ⟨v, e, h1, h2, h3.grown hg hr⟩
theorem PkT.wide {lo' : Nat} (h : PkT w lo cs p) (hl : lo' ≤ lo) : PkT w lo' cs p := by
  obtain ⟨v, e, h1, h2, h3⟩ := h
  exact ⟨v, e, h1, h2, h3.wide hl⟩
end

def CutP (q : Pk) (lo : Nat) : Pred := fun v w => ∃ ds, v = .agg ds ∧ PkT w lo ds.toList q
def NewP (q : Pk) (lo B : Nat) : Pred := fun v w => ∃ g ds, v = .slice (some ⟨g, 0, none⟩) 1 1 ∧ B ≤ g ∧ w.heap[g]? = some (.cells ds 27 (0, 0)) ∧ PkT w lo ds.toList q
def AppP (q : Pk) (lo n : Nat) (xs : List Value) : Pred := fun v w => ∃ ds, w.ownsRow lo 27 14 v (n + 1) (xs ++ ds) ∧ PkT w lo ds q
/-- a row of elements of type t, of a block below B, grows -/
def RowS (t : TypeId) (B : Nat) (w w' : World) : Prop := ∃ row, w.grownBy w' row ∧ ∀ g, row = some g → g < B ∧ ∃ C, w.heap[g]? = some (.cells C t (0, 0))
theorem cutp_mono (q : Pk) (lo : Nat) : Mono (CutP q lo) := fun _ _ _ hb ⟨ds, e, h⟩ => ⟨ds, e, h.below hb (Nat.le_refl _)⟩
theorem newp_mono (q : Pk) (lo B : Nat) : Mono (NewP q lo B) := fun _ _ _ hb ⟨g, ds, e, h1, h2, h3⟩ => ⟨g, ds, e, h1, (hb.block _ (row_lt h2)).trans h2, h3.below hb (Nat.le_refl _)⟩
theorem appp_mono (q : Pk) (lo n : Nat) (xs : List Value) : Mono (AppP q lo n xs) := fun _ _ _ hb ⟨ds, h1, h2⟩ => ⟨ds, ownk_below h1 hb (Nat.le_refl _), h2.below hb (Nat.le_refl _)⟩
theorem PkT.rowS {w w' : World} {B lo : Nat} {cs : List Value} {q : Pk} (h : PkT w lo cs q) (hs : RowS 27 B w w') : PkT w' lo cs q := by
  obtain ⟨row, hg, hr⟩ := hs
  refine h.grown hg fun g C t fr he hh => ?_
  obtain ⟨_, C', hC⟩ := hr g he
  rw [hC] at hh
  injection hh with hh
  injection hh with _ h2
  subst h2
  decide
theorem cutp_sg (q : Pk) (lo B : Nat) : StableG (RowS 27 B) (CutP q lo) := fun _ _ _ hs ⟨ds, e, h⟩ => ⟨ds, e, h.rowS hs⟩
theorem newp_sg (q : Pk) (lo B : Nat) : StableG (RowS 27 B) (NewP q lo B) := fun _ _ _ hs ⟨g, ds, e, h1, h2, h3⟩ => by
  refine ⟨g, ds, e, h1, ?_, h3.rowS hs⟩
  obtain ⟨row, hg, hr⟩ := hs
  exact (hg.block g (row_lt h2) fun he => by have := (hr g he.symm).1; omega).trans h2
set_option maxRecDepth 100000 in
set_option maxHeartbeats 4000000 in
theorem split_ok (id : Nat) (ttl proto s0 s1 s2 s3 d0 d1 d2 d3 : UInt8) (data : List UInt8) (A : Option Addr) (n c lo hi : Nat) (w : World) (hid : id < 65536) (hr : Rd w lo hi A (cells data)) (hn : data.length = n) (hc : n ≤ c) (hcm : c ≤ maxLen) (hA : A = none → c = 0) (hhi : hi ≤ w.heap.size) (hl : n ≤ 1000) :
    Calls Try.prog 6 #[.agg #[.int .u16 (id : Int), .bool false, .int .i64 0, .int .u8 (ttl.toNat : Int), .int .u8 (proto.toNat : Int), .int .u8 (s0.toNat : Int), .int .u8 (s1.toNat : Int), .int .u8 (s2.toNat : Int), .int .u8 (s3.toNat : Int), .int .u8 (d0.toNat : Int), .int .u8 (d1.toNat : Int), .int .u8 (d2.toNat : Int), .int .u8 (d3.toNat : Int), .slice A n c]] w
      fun e w' => ∃ v, e = .returned (.tuple #[v, .int .i64 0]) ∧ OwnPks w' w.heap.size v (splitL ⟨id, false, 0, ttl, proto, [s0, s1, s2, s3], [d0, d1, d2, d3], data⟩ (piecesN n)) ∧ Below w.heap.size w w' := by
  obtain ⟨p, hp⟩ : ∃ p : Pk, p = ⟨id, false, 0, ttl, proto, [s0, s1, s2, s3], [d0, d1, d2, d3], data⟩ := ⟨_, rfl⟩
  rw [← hp]
  have HP := Lib.hid hp
  have HR := Lib.hid hr
  have HN := Lib.hid hn
  have HHI := Lib.hid hhi
  have HA := Lib.hid hA
  have HID := Lib.hid hid
  have HC0 := Lib.hid hc
  clear hp hr hn hhi hA hid
  unfold maxLen at hcm
  go_enter Try.func6, Try.ntmps6
  go_wp2
  go_loopw [4, 5] (fun t4 t5 wr => ∃ (k m d o : Nat) (A' : Option Addr) (xs : List Value), t5 = .slice A' m d ∧ m ≤ 1000 ∧ m ≤ d ∧ d ≤ 9223372036854775807 ∧ o ≤ 1000 ∧ Hid (o = 176 * k) ∧ Hid (o + m = n) ∧ Hid (0 < k → 0 < m) ∧ Hid (A' = none → m = 0) ∧ Hid (Rd w lo hi A' (cells (data.drop o))) ∧
      Hid (wr.ownsRow (w.heap.size + 1) 27 14 t4 k xs) ∧ Hid (RowOf 14 (PkT wr (w.heap.size + 1)) xs (splitL p k)) ∧ Hid (Below w.heap.size w wr) ∧
      Hid (wr.heap[w.heap.size]? = some (.cells #[.int .u16 (id : Int), .bool false, .int .i64 (o : Int), .int .u8 (ttl.toNat : Int), .int .u8 (proto.toNat : Int), .int .u8 (s0.toNat : Int), .int .u8 (s1.toNat : Int), .int .u8 (s2.toNat : Int), .int .u8 (s3.toNat : Int), .int .u8 (d0.toNat : Int), .int .u8 (d1.toNat : Int), .int .u8 (d2.toNat : Int), .int .u8 (d3.toNat : Int), .slice A n c] 27 (0, 0)))) (fun _ t5 _ => match t5 with | .slice _ m _ => m | _ => 0)
  case atStart => exact ⟨0, n, c, 0, A, [], rfl, hl, HC0.out, hcm, by omega, Lib.hid rfl, Lib.hid (Nat.zero_add n), Lib.hid (fun h => absurd h (by omega)), Lib.hid (fun h => by have := HA.out h; have := HC0.out; omega), HR, Lib.hid (World.ownsRow_nil _ _ _ _), Lib.hid RowOf.nil, Lib.hid ((Below.refl _ _).alloc (Nat.le_refl _) _), Lib.hid (heap_alloc_new w _)⟩
  case round =>
    obtain ⟨k, m, d, o, A', xs, rfl, hm, hmd, hd, ho, HO, HOM, HPOS, HAN, HRD, HOWN, HROW, HBEL, HBX⟩ := hrel
    obtain ⟨C1, hC1⟩ : ∃ C1 : Array Value, #[.int .u16 (id : Int), .bool false, .int .i64 (o : Int), .int .u8 (ttl.toNat : Int), .int .u8 (proto.toNat : Int), .int .u8 (s0.toNat : Int), .int .u8 (s1.toNat : Int), .int .u8 (s2.toNat : Int), .int .u8 (s3.toNat : Int), .int .u8 (d0.toNat : Int), .int .u8 (d1.toNat : Int), .int .u8 (d2.toNat : Int), .int .u8 (d3.toNat : Int), .slice A n c] = C1 := ⟨_, rfl⟩
    rw [hC1] at HBX
    obtain ⟨pk, hpk⟩ : ∃ pk : Pk, pk = { p with off := (o : Int) } := ⟨_, rfl⟩
    have HPV : Hid (PkV w lo hi C1 pk) := by
      show PkV _ _ _ _ _
      rw [hpk, HP.out, ← hC1]
      exact ⟨A, c, by simp only [HN.out]; rfl, ⟨HID.out, rfl, rfl⟩, ⟨by simp only; omega, by simp only; omega⟩, HR.out, by simp only [HN.out]; exact HC0.out, by unfold maxLen; omega, HA.out⟩
    have HC1 := Lib.hid hC1
    have HS1 : Hid (C1.size = 14) := HPV.out.size
    have HPK := Lib.hid hpk
    clear hC1 hpk
    have HPD : Hid (p.data = data) := by show _ = _; rw [HP.out]
    by_cases hlt : 176 < m
    · obtain ⟨ad, rfl⟩ : ∃ ad, A' = some ad := by
        rcases A' with _ | ad
        · have := HAN.out rfl; omega
        · exact ⟨ad, rfl⟩
      obtain ⟨q, hq⟩ : ∃ q, pieceP p k = q := ⟨_, rfl⟩
      obtain ⟨l, hl2⟩ : ∃ l, (data.drop o).take 176 = l := ⟨_, rfl⟩
      have HQ : Hid (({ pk with more := true, data := l } : Pk) = q) := by
        show _ = _
        rw [← hq, HPK.out, ← hl2]
        unfold pieceP
        rw [HPD.out, ← HO.out, HN.out]
        have := HO.out
        have := HOM.out
        rw [decide_eq_true (by omega)]
      have HQ1 := Lib.hid hq
      have HDL : Hid (l.length = 176) := by show _ = _; rw [← hl2, List.length_take, List.length_drop, HN.out]; have := HOM.out; omega
      have HD : Hid (Rd w lo hi (some ad) (cells l)) := by
        show Rd _ _ _ _ _
        rw [← hl2, ← cells_take]
        exact HRD.out.take 176
      have HRD2 : Hid (Rd w lo hi (some (ad.add 176)) (cells (data.drop (o + 176)))) := by
        have := HRD.out.drop 176
        rwa [cells_drop, List.drop_drop] at this
      obtain ⟨B, hB⟩ : ∃ B, wr.heap.size = B := ⟨_, rfl⟩
      have HBS := Lib.hid hB
      have HBB : Hid (w.heap.size + 1 ≤ B) := by have := row_lt HBX.out; show _ ≤ _; omega
      obtain ⟨ps, hps⟩ : ∃ ps, splitL p k = ps := ⟨_, rfl⟩
      rw [hps] at HROW
      have HPS := Lib.hid hps
      have hk6 : k ≤ 5 := by have := HO.out; omega
      have hd176 : (176 : Int) ≤ (d : Int) := by omega
      clear hq hl2 hB hps
      generalize u4 = v4 at HOWN ⊢
      go_wp2_with fail
      apply wp_region_relyG [6] (fun L w' => Below w.heap.size w w' ∧ w'.heap[w.heap.size]? = some (.cells C1 27 (0, 0)) ∧ B ≤ w'.heap.size ∧ RowOf 14 (PkT w' (w.heap.size + 1)) xs ps ∧ (L 6 = false → w'.ownsRow (w.heap.size + 1) 27 14 v4 k xs)) (RL [Is _, Is (.agg C1), Is _, Is _, CutP q (w.heap.size + 1), NewP q (w.heap.size + 1) B, AppP q (w.heap.size + 1) k xs, AppP q (w.heap.size + 1) k xs]) [false, false, false, false, true, false, false, false, false, false, false, false, false, false, false, false, false, false, false, false, false, false, true, true, true, true, true, true, true, false, false, false, false, false, false, false, false, false, false, false, false]
      · kernel_rfl
      · kernel_rfl
      · kernel_rfl
      · refine ⟨?_, ?_, ?_, ?_, ?_, ?_, ?_, ?_, trivial⟩
        · intro L ev w' hC hL hx K hK
          have e4 : ev (.tmp 4) = _ := hx.old 7 _ 4 rfl rfl (Bool.eq_false_iff.2 fun h => by have h1 := hx.closed 7 _ 6 rfl h (by kernel_rfl); have h2 := hx.closed 6 _ 0 rfl h1 (by kernel_rfl); rw [hL] at h2; cases h2)
          have HK := Lib.hid hK
          have HC := Lib.hid hC
          have HL := Lib.hid hL
          have HX := Lib.hid hx
          have hc := hx.cst
          skip
          clear hx hK hC hL
          unfold Run
          simp [execOp, Upon, go_sem, *]
          exact HK.out _ _ (.inl ⟨Below.refl _ _, by decide⟩) rfl
        · intro L ev w' hC hL hx K hK
          have e1 : ev (.tmp 1) = _ := hx.base 1 (by kernel_rfl)
          have HK := Lib.hid hK
          have HC := Lib.hid hC
          have HL := Lib.hid hL
          have HX := Lib.hid hx
          have hc := hx.cst
          skip
          clear hx hK hC hL
          have q1 : ev (.tmp 1) = .pointer (some ⟨w.heap.size, 0, none⟩) := e1
          have hld := run_loadVar_row (P := Try.prog) w' w.heap.size 27 27 C1 (0, 0) _ HC.out.2.1 Try.underlying27 rfl (size_pk HS1.out)
          unfold Run
          rw [run_loadE 27 _ rfl q1 hld]
          exact HK.out _ _ (.inl ⟨Below.refl _ _, by decide⟩) rfl
        · intro L ev w' hC hL hx K hK
          have e5 : ev (.tmp 5) = _ := hx.base 5 (by kernel_rfl)
          have HK := Lib.hid hK
          have HC := Lib.hid hC
          have HL := Lib.hid hL
          have HX := Lib.hid hx
          have hc := hx.cst
          skip
          clear hx hK hC hL
          unfold Run
          simp [execOp, Upon, go_sem, *]
          exact HK.out _ _ (.inl ⟨Below.refl _ _, by decide⟩) rfl
        · intro L ev w' hC hL hx K hK
          have e24 := hx.held 2 _ rfl (by kernel_rfl)
          change ev (.tmp 24) = _ at e24
          have HK := Lib.hid hK
          have HC := Lib.hid hC
          have HL := Lib.hid hL
          have HX := Lib.hid hx
          have hc := hx.cst
          skip
          clear hx hK hC hL
          unfold Run
          simp [execOp, Upon, go_sem, *]
          exact HK.out _ _ (.inl ⟨Below.refl _ _, by decide⟩) rfl
        · intro L ev w' hC hL hx K hK
          have e23 := hx.held 1 _ rfl (by kernel_rfl)
          have e25 := hx.held 3 _ rfl (by kernel_rfl)
          change ev (.tmp 23) = _ at e23
          change ev (.tmp 25) = _ at e25
          have HK := Lib.hid hK
          have HC := Lib.hid hC
          have HL := Lib.hid hL
          have HX := Lib.hid hx
          have hc := hx.cst
          have hf := hx.fn
          clear hx hK hC hL
          obtain ⟨hC1, hC2, hC3, hC4, hC5⟩ := HC.out
          have HX := Lib.hid (cut_any C1 pk true (some ad) l 176 d lo hi lo hi w' (HPV.out.below hC1 HHI.out) (HD.out.below hC1 HHI.out) HDL.out (fun h => by cases h) (Nat.le_trans HHI.out hC1.size) (by omega))
          clear hC1 hC2 hC3 hC4 hC5
          unfold Run
          simp [execOp, Upon, go_sem, *]
          refine HX.out.mono ?_
          rintro e w2 ⟨ds, rfl, hd, hb⟩
          rw [HQ.out] at hd
          exact ⟨_, rfl, HK.out _ _ (.inl ⟨hb, by decide⟩) ⟨ds, rfl, hd.wide (Nat.le_trans HBB.out HC.out.2.2.1)⟩⟩
        · intro L ev w' hC hL hx K hK
          have e26 := hx.held 4 _ rfl (by kernel_rfl)
          change (CutP q (w.heap.size + 1) : Pred) (ev (.tmp 26)) _ at e26
          have HK := Lib.hid hK
          have HC := Lib.hid hC
          have HL := Lib.hid hL
          have HX := Lib.hid hx
          have hc := hx.cst
          skip
          clear hx hK hC hL
          obtain ⟨ds, q26, hd⟩ := e26
          have HD1 := Lib.hid hd
          have hrun := run_build_one (P := Try.prog) w' 29 27 ds Try.underlying29 14 (by decide) (by decide) (by kernel_rfl) (by simpa using hd.len)
          clear hd
          unfold Run
          rw [run_buildE 29 _ rfl q26 hrun]
          exact HK.out _ _ (.inl ⟨(Below.refl _ _).alloc (Nat.le_refl _) _, by decide⟩) ⟨_, ds, rfl, HC.out.2.2.1, heap_alloc_new _ _, HD1.out.alloc _⟩
        · intro L ev w' hC hL hx K hK
          have e22 := hx.held 0 _ rfl (by kernel_rfl)
          have e27 := hx.held 5 _ rfl (by kernel_rfl)
          change ev (.tmp 22) = _ at e22
          change (NewP q (w.heap.size + 1) B : Pred) (ev (.tmp 27)) _ at e27
          have HK := Lib.hid hK
          have HC := Lib.hid hC
          have HL := Lib.hid hL
          have HX := Lib.hid hx
          have hc := hx.cst
          skip
          clear hx hK hC hL
          obtain ⟨g, ds, q27, hgB, hgg, hd⟩ := e27
          obtain ⟨hC1, hC2, hC3, hC4, hC5⟩ := HC.out
          have HOW := Lib.hid (hC5 HL.out)
          have HD1 := Lib.hid hd
          have HC1 := Lib.hid hC1
          have HC2 := Lib.hid hC2
          have HC3 := Lib.hid hC3
          have HC4 := Lib.hid hC4
          have HG := Lib.hid hgg
          have HGB := Lib.hid hgB
          obtain ⟨i0, hi0, hz0, hz1, hz2⟩ := info_parts info_pk
          obtain ⟨v', w2, hrun, hown2, hgrow2, hat2⟩ := append_elem (P := Try.prog) (w := w') (w.heap.size + 1) 29 29 27 i0 _ 14 56 Try.underlying29 hi0 hz0 hz1 hz2 rfl (by decide) v4 k xs HOW.out g 1 ds _ _ HG.out (by simpa using HD1.out.len) HD1.out.one (by unfold maxLen; omega) (by omega) (by have := HC1.out.size; have := HBB.out; have := HC3.out; omega)
          have HO2 := Lib.hid hown2
          have HW2 := Lib.hid hgrow2
          have HSG : Hid (RowS 27 B w' w2) := ⟨v4.ownBlock, hgrow2, fun g' he => ⟨by have := HOWN.out.lt g' he; have := HBS.out; omega, ownk_cells_of HOW.out he⟩⟩
          have HAT := Lib.hid hat2
          clear hC1 hC2 hC3 hC4 hC5 hd hgg hgB hown2 hgrow2 hat2 hi0 hz0 hz1 hz2
          have q22 : ev (.tmp 22) = v4 := e22
          unfold Run
          rw [run_appendE _ _ 29 rfl q22 q27 hrun]
          refine HK.out _ _ (.inr ⟨⟨HC1.out.grown HW2.out HC1.out.size (fun g' he => by have := HOW.out.lt g' he; omega), ?_, Nat.le_trans HC3.out HW2.out.size, HC4.out.imp fun cs a _ h => h.grown HW2.out (fun g' C t fr he hh => ?_), fun h => by simp [upd] at h⟩, fun j hj hlj u hr => rl_sg (S := RowS 27 B) (ex := [6, 7]) 0 (by exact ⟨.inr (is_sg _ _), .inr (is_sg _ _), .inr (is_sg _ _), .inr (is_sg _ _), .inr (cutp_sg _ _ _), .inr (newp_sg _ _ _), .inl rfl, .inl rfl, trivial⟩) j u w' w2 (by rw [Nat.zero_add]; have h7 : j ≠ 7 := (fun h => by subst h; have h1 := HX.out.closed 7 _ 6 rfl hlj (by kernel_rfl); rw [HL.out] at h1; cases h1); simp [hj, h7]) HSG.out hr⟩) ⟨ds.toList, HO2.out, HD1.out.grown HW2.out (fun g' C t fr he hh => ?_)⟩
          · exact (HW2.out.block _ (row_lt HC2.out) (fun he => by have := HOW.out.lt _ he.symm; omega)).trans HC2.out
          · have := ownk_type HOW.out he hh
            subst this
            decide
          · have := ownk_type HOW.out he hh
            subst this
            decide
        · intro L ev w' hC hL hx K hK
          have e28 := hx.held 6 _ rfl (by kernel_rfl)
          change (AppP q (w.heap.size + 1) k xs : Pred) (ev (.tmp 28)) _ at e28
          have HK := Lib.hid hK
          have HC := Lib.hid hC
          have HL := Lib.hid hL
          have HX := Lib.hid hx
          have hc := hx.cst
          skip
          clear hx hK hC hL
          have E28 := Lib.hid e28
          clear e28
          unfold Run
          simp [execOp, Upon, go_sem, *]
          exact HK.out _ _ (.inl ⟨Below.refl _ _, by decide⟩) E28.out
      · exact rl_mono ⟨is_mono _, is_mono _, is_mono _, is_mono _, cutp_mono _ _, newp_mono _ _ _, appp_mono _ _ _ _, appp_mono _ _ _ _, trivial⟩
      · exact fun L L' w1 he h => ⟨h.1, h.2.1, h.2.2.1, h.2.2.2.1, fun hl => h.2.2.2.2 ((he 6 (by simp)).trans hl)⟩
      · exact fun L w1 w2 hb h => ⟨h.1.trans (hb.mono h.1.size), (hb.block _ (row_lt h.2.1)).trans h.2.1, Nat.le_trans h.2.2.1 hb.size, h.2.2.2.1.imp fun cs a _ hp => hp.below hb (Nat.le_refl _), fun hl => ownk_below (h.2.2.2.2 hl) hb (Nat.le_refl _)⟩
      · exact ⟨HBEL.out, HBX.out, Nat.le_of_eq HBS.out.symm, HROW.out, fun _ => HOWN.out⟩
      · simp
      intro us wr hG hH
      obtain ⟨-, -, -, -, -, -, -, h7, -⟩ := hH
      simp only [fillM]
      change (AppP q (w.heap.size + 1) k xs : Pred) (us 4) wr at h7
      generalize us 22 = v22
      generalize us 23 = v23
      generalize us 24 = v24
      generalize us 25 = v25
      generalize us 26 = v26
      generalize us 27 = v27
      generalize us 28 = v28
      generalize us 4 = v4 at h7 ⊢
      obtain ⟨g1, g2, g3, g4, -⟩ := hG
      obtain ⟨ds, ho7, hd7⟩ := h7
      have hc2 : wr.cell? ⟨w.heap.size, 2, none⟩ = some (.int .i64 (o : Int)) := by rw [cell_of_row _ _ _ _ _ _ g2, ← HC1.out]; rfl
      have hf2 := frozen_of_row _ _ 2 _ _ g2
      have HY := Lib.hid (heap_setCell_same wr w.heap.size 2 C1 27 (.int .i64 ((o : Int) + 176)) g2)
      have HB2 : Hid (Below w.heap.size w (wr.setCell ⟨w.heap.size, 2, none⟩ (.int .i64 ((o : Int) + 176)))) := g1.setCell (Nat.le_refl _) _
      have HO2 := Lib.hid (ownsRow_setCell_below ho7 (a := ⟨w.heap.size, 2, none⟩) (Nat.lt_succ_self _) (.int .i64 ((o : Int) + 176)))
      have hst : ∀ cs r, PkT wr (w.heap.size + 1) cs r → PkT (wr.setCell ⟨w.heap.size, 2, none⟩ (.int .i64 ((o : Int) + 176))) (w.heap.size + 1) cs r := fun cs r h => by
        obtain ⟨v, e, h1, h2, h3⟩ := h
        exact ⟨v, e, h1, h2, h3.keep fun A hA => hA.keep fun g C hg _ => heap_setCell_other _ _ _ _ (by simp only; omega)⟩
      have HRW : Hid (RowOf 14 (PkT (wr.setCell ⟨w.heap.size, 2, none⟩ (.int .i64 ((o : Int) + 176))) (w.heap.size + 1)) (xs ++ ds) (splitL p (k + 1))) := by
        show RowOf _ _ _ _
        rw [splitL_succ, HPS.out, HQ1.out]
        exact (g4.imp fun cs r _ h => hst cs r h).append (RowOf.one (hst _ _ hd7) hd7.len)
      clear g1 g2 g3 g4 ho7 hd7 hst
      go_wp2
      go_roundw
      case rel => exact ⟨k + 1, m - 176, d - 176, o + 176, some (ad.add 176), xs ++ ds, by go_num, by omega, by omega, by omega, by have := HOM.out; omega, (by have := HO.out; show _ = _; omega), (by have := HOM.out; show _ = _; omega), Lib.hid (fun _ => by omega), Lib.hid (fun h => by cases h), HRD2, HO2, HRW, HB2, (by have := HY.out; rw [← HC1.out] at this; exact this)⟩
      case measure => simp; omega
    · have hend : splitL p (piecesN n) = splitL p k ++ [pieceP p k] := by
        rw [← splitL_succ]
        congr 1
        unfold piecesN
        have := HO.out
        have := HOM.out
        have := HPOS.out
        split <;> omega
      obtain ⟨q, hq⟩ : ∃ q, pieceP p k = q := ⟨_, rfl⟩
      have HQ : Hid (({ pk with more := false, data := data.drop o } : Pk) = q) := by
        show _ = _
        rw [← hq, HPK.out]
        unfold pieceP
        rw [HPD.out, ← HO.out, HN.out]
        have := HO.out
        have := HOM.out
        rw [decide_eq_false (by omega), List.take_of_length_le (by rw [List.length_drop, HN.out]; omega)]
      rw [hq] at hend
      have HEND := Lib.hid hend
      have HDL : Hid ((data.drop o).length = m) := by show _ = _; rw [List.length_drop, HN.out]; have := HOM.out; omega
      have HWZ : Hid (w.heap.size + 1 ≤ wr.heap.size) := by have := row_lt HBX.out; show _ ≤ _; omega
      have hk6 : k ≤ 5 := by have := HO.out; omega
      obtain ⟨i0, hi0, hz0, hz1, hz2⟩ := info_parts info_pk
      clear hq hend
      generalize u4 = v4 at HOWN ⊢
      go_wp2_with (refine wpList_load_row rfl 27 _ rfl w.heap.size rfl 27 C1 (0, 0) _ HBX.out Try.underlying27 rfl (size_pk HS1.out) ?_)
      refine (cut_any C1 pk false A' (data.drop o) m d lo hi lo hi wr (HPV.out.below HBEL.out HHI.out) (HRD.out.below HBEL.out HHI.out) HDL.out HAN.out (Nat.le_trans HHI.out HBEL.out.size) (by omega)).mono ?_
      rintro e w2 ⟨ds, rfl, hd, hb2⟩
      rw [HQ.out] at hd
      have HD := Lib.hid (hd.wide HWZ.out)
      have HSZ : Hid (ds.size = 14) := by have := hd.len; show _ = _; simpa using this
      have HON := Lib.hid (ownk_below HOWN.out hb2 (Nat.le_refl _))
      have HRW := Lib.hid (HROW.out.imp fun cs r _ (h : PkT wr (w.heap.size + 1) cs r) => h.below hb2 (Nat.le_refl _))
      have HB2 := Lib.hid (HBEL.out.trans (hb2.mono HBEL.out.size))
      have HW2 : Hid (w.heap.size + 1 ≤ w2.heap.size) := Nat.le_trans HWZ.out hb2.size
      clear hd hb2 HOWN HROW HBEL
      go_wp2_with (first | refine wpList_build_one rfl 29 27 _ rfl ds rfl Try.underlying29 14 (by decide) (by decide) (by kernel_rfl) HSZ.out ?_ | (at_builtin; refine wpList_append_elem rfl _ _ 29 rfl (w.heap.size + 1) 27 i0 _ 14 56 Try.underlying29 hi0 hz0 hz1 hz2 rfl (by decide) v4 k xs rfl (HON.out.alloc _) w2.heap.size 1 ds 27 (0, 0) rfl (heap_alloc_new w2 _) HSZ.out HD.out.one (by unfold maxLen; omega) (by omega) (by have := HW2.out; simp; omega) ?_))
      intro v5 w5 hown5 hgrow5 _
      have HTY : Hid (∀ (g : Nat) (C : Array Value) (t : TypeId) (fr : Nat × Nat), v4.ownBlock = some g → (w2.alloc (.cells ds 27)).heap[g]? = some (.cells C t fr) → t ≠ 5) := fun g C t fr he hh => by
        have := ownk_type (HON.out.alloc (.cells ds 27)) he hh
        subst this
        decide
      have HB5 : Hid (Below w.heap.size w w5) := (HB2.out.alloc HB2.out.size _).grown hgrow5 (by have := HB2.out.size; simp; omega) fun g hg => by have := HON.out.lt g hg; omega
      have HR5 : Hid (RowOf 14 (PkT w5 (w.heap.size + 1)) (xs ++ ds.toList) (splitL p (piecesN n))) := by
        show RowOf _ _ _ _
        rw [HEND.out]
        exact (HRW.out.imp fun cs r _ (h : PkT w2 (w.heap.size + 1) cs r) => (h.alloc _).grown hgrow5 HTY.out).append (RowOf.one ((HD.out.alloc _).grown hgrow5 HTY.out) HD.out.len)
      have HO5 := Lib.hid hown5
      clear hown5 hgrow5
      go_wp2
      go_ret2
      refine ⟨v5, rfl, ⟨xs ++ ds.toList, ?_, HR5.out.imp fun cs r _ h => h.wide (Nat.le_succ _)⟩, HB5.out⟩
      rw [HEND.out, List.length_append, splitL_length]
      exact ownk_base HO5.out (Nat.le_succ _)
end Go.Proofs.Ytogplhdcicajgaa
