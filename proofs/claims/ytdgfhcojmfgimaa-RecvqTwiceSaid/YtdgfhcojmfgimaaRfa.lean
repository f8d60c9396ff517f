/-
  The document's Accept of layer 17. Every right state, every number, all data of at most a thousand bytes.
-/
import Derived.Test.YtdgfhcojmfgimaaRfo
namespace Go.Proofs.Ytdgfhcojmfgimaa
open Go.RowKit

theorem rx_form {w : World} {S : Nat → Prop} {cs : Array Value} {x : Rx} (h : Rvs w S cs.toList (rxD x)) : ∃ A c, cs = #[.int .u32 x.next, txtV x.data, .slice A x.got.length c, .int .i64 x.fin, .bool x.done] ∧ RdS w S A (intsV x.got) ∧ (A = none → c = 0) ∧ x.got.length ≤ c ∧ c ≤ maxLen := by
  obtain ⟨v0, v1, v2, v3, v4, hcs⟩ : ∃ v0 v1 v2 v3 v4, cs.toList = [v0, v1, v2, v3, v4] := by
    have := h.1
    rcases hc : cs.toList with _ | ⟨v0, _ | ⟨v1, _ | ⟨v2, _ | ⟨v3, _ | ⟨v4, _ | ⟨v5, l⟩⟩⟩⟩⟩⟩ <;> rw [hc] at this <;> simp [rxD] at this
    exact ⟨_, _, _, _, _, rfl⟩
  have he : cs = #[v0, v1, v2, v3, v4] := by rw [← Array.toArray_toList (xs := cs), hcs]
  rw [hcs] at h
  unfold rxD at h
  simp only [rvs_cons, rv_val] at h
  obtain ⟨⟨rfl, _⟩, ⟨rfl, _⟩, hv, ⟨rfl, _⟩, ⟨rfl, _⟩, _⟩ := h
  obtain ⟨A, c, rfl, h1, h2, h3, h4⟩ := rv_ints.1 hv
  exact ⟨A, c, he, h1, h2, h3, h4⟩
theorem rx_make {w : World} {S : Nat → Prop} {x : Rx} {v : Value} (h : Rv w S v (intsD x.got)) : Rvs w S (#[.int .u32 x.next, txtV x.data, v, .int .i64 x.fin, .bool x.done] : Array Value).toList (rxD x) := by
  unfold rxD
  show Rvs w S [_, _, _, _, _] _
  simp only [rvs_cons]
  exact ⟨.val rfl, .val rfl, h, .val rfl, .val rfl, rvs_nil⟩
theorem any_take {l : List Int} {e i : Nat} {z : Int} (hz : l[i]? = some z) (hei : e ≤ i) : ((l.drop e).take (i + 1 - e)).any (fun z => decide (0 ≤ z)) = (((l.drop e).take (i - e)).any (fun z => decide (0 ≤ z)) || decide (0 ≤ z)) := by
  have h : (l.drop e)[i - e]? = some z := by rw [List.getElem?_drop, show e + (i - e) = i from by omega]; exact hz
  have hlt := (List.getElem?_eq_some_iff.1 h).1
  rw [show i + 1 - e = (i - e) + 1 from by omega, List.take_succ_eq_append_getElem hlt, (List.getElem?_eq_some_iff.1 h).2, List.any_append]
  simp
theorem lay_take {x : Rx} {d : Int} {D : List UInt8} {f : Int} {i : Nat} {c : Int} (h : x.got[i]? = some c) : (layX x d D f).take (i + 1) = (layX x d D f).take i ++ [layI x d D f i c] := by
  have hl : (layX x d D f).length = x.got.length := by simp [layX]
  have hlt := (List.getElem?_eq_some_iff.1 h).1
  rw [List.take_succ_eq_append_getElem (by rw [hl]; exact hlt)]
  congr 2
  simp only [layX, List.getElem_mapIdx]
  rw [(List.getElem?_eq_some_iff.1 h).2]
theorem lay_bytes {x : Rx} {d : Int} {D : List UInt8} {f : Int} (h : ∀ c ∈ x.got, -1 ≤ c ∧ c ≤ 255) : ∀ c ∈ layX x d D f, -1 ≤ c ∧ c ≤ 255 := by
  intro c hc
  unfold layX at hc
  obtain ⟨i, hi, rfl⟩ := List.mem_iff_getElem.1 hc
  rw [List.getElem_mapIdx]
  have hg := h _ (List.getElem_mem (by simpa using hi))
  unfold layI
  split
  · split
    · rename_i b _
      have := b.toNat_lt
      omega
    · exact hg
  · exact hg
theorem front_len (l : List Int) : (frontL l).length ≤ l.length := by
  unfold frontL
  rw [List.length_map]
  have := congrArg List.length (List.takeWhile_append_dropWhile (p := fun z => decide ((0 : Int) ≤ z)) (l := l))
  rw [List.length_append] at this
  omega
theorem diff_lo (a b : Int) : -2147483648 ≤ diffS a b ∧ diffS a b < 2147483648 := by
  unfold diffS
  omega
theorem grown_cellR {w w' : World} {g : Nat} (h : w.grownBy w' (some g)) (i : Nat) (u : Value) : w.grownBy (w'.setCell ⟨g, i, none⟩ u) (some g) :=
  ⟨h.os, h.tape, h.output, by simp; exact h.size, fun k hk hx => (heap_setCell_other w' ⟨g, i, none⟩ k u (fun e => hx (by simp [e]))).trans (h.block k hk hx)⟩
theorem run_storeVar_cell {P : Program} {w w' : World} (ty : TypeId) (ad : Addr) (v : Value) (hv : v.cells = #[v]) (hi : (P.info? ty).map (·.size) = some 1) (hs : (store ad v).run P w = .ok () w') : (storeVar ty ad v).run P w = .ok () w' := by
  cases hq : P.info? ty with
  | none => simp [hq] at hi
  | some i =>
    have hi1 : i.size = 1 := by simpa [hq] using hi
    have h0 : ad.add 0 = ad := rfl
    simp [storeVar, sizeOf, typeInfo, hq, hv, hi1, storeCells, Sem.run_bind, h0, hs]
theorem run_storeC {P : Program} {ev : Operand → Value} {o : Oper} {w w' : World} (ty : TypeId) (x y : Operand) (ho : o.op = .store ty x y) {ad : Addr} (hx : ev x = .pointer (some ad)) {v : Value} (hy : ev y = v) (hv : v.cells = #[v]) (hi : (P.info? ty).map (·.size) = some 1) (hl : (store ad v).run P w = .ok () w') : (execOp ev o).run P w = .ok .skip w' :=
  rely_store ty x y ho hx hy (run_storeVar_cell ty ad v hv hi hl)
theorem ownk_grown {w w' : World} {base k n g : Nat} {e : TypeId} {v : Value} {xs : List Value} (h : w.ownsRow base e k v n xs) (hg : w.grownBy w' (some g)) (hlt : g < base) : w'.ownsRow base e k v n xs := by
  refine ⟨h.1, ?_⟩
  rcases h.2 with h | ⟨g2, c, cur, e1, hb, hh, h3⟩
  · exact .inl h
  · exact .inr ⟨g2, c, cur, e1, hb, (hg.block g2 (row_lt hh) (fun e => by injection e with e; omega)).trans hh, h3⟩
set_option maxRecDepth 100000 in
set_option maxHeartbeats 4000000 in
theorem refaccept_any (x : Rx) (cs : Array Value) (S : Nat → Prop) (a : Int) (D : List UInt8) (e : Bool) (w : World) (hr : Rvs w S cs.toList (rxD x)) (hx : OkX x) (ha : U32 a) (hD : D.length ≤ 1000) :
    Calls Try.prog 15 #[.agg cs, .int .u32 a, txtV D, .bool e] w fun en w' => ∃ cs' : Array Value, en = .returned (.agg cs') ∧ Rvs w' (fun b => S b ∨ w.heap.size ≤ b) cs'.toList (rxD (acceptX x a D e)) ∧ Below w.heap.size w w' := by
  obtain ⟨A2, c2, hcs, hrd, hA2, hc2, hm2⟩ := rx_form hr
  have hgl := hx.got
  obtain ⟨nx, dt, gt, fn, dn⟩ := x
  dsimp only at hcs hrd hc2 hgl
  rw [hgl] at hcs hc2
  subst hcs
  have hm3 : c2 ≤ 9223372036854775807 := by unfold maxLen at hm2; omega
  have hml := hx.data
  dsimp only at hml
  obtain ⟨n, hn⟩ : ∃ n, D.length = n := ⟨_, rfl⟩
  obtain ⟨m, hm⟩ : ∃ m, dt.length = m := ⟨_, rfl⟩
  have HWN : Hid (∀ nx gt fn dn, winX ⟨nx, dt, gt, fn, dn⟩ = 256 - (m : Int)) := fun nx gt fn dn => by unfold winX; rw [hm]
  obtain ⟨w1, hw1⟩ : ∃ w1, (w.alloc (.cells #[.int .u32 nx, txtV dt, .slice A2 256 c2, .int .i64 fn, .bool dn] 33)).alloc (.cells Zx 33) = w1 := ⟨_, rfl⟩
  have HB1 : Hid (Below w.heap.size w w1) := by rw [← hw1]; exact ((Below.refl _ _).alloc (Nat.le_refl _) _).alloc (by simp) _
  have HX1 : Hid (w1.heap[w.heap.size]? = some (.cells #[.int .u32 nx, txtV dt, .slice A2 256 c2, .int .i64 fn, .bool dn] 33 (0, 0))) := by rw [← hw1]; exact old_alloc (heap_alloc_new w _) _
  have HZ1 : Hid (w1.heap[w.heap.size + 1]? = some (.cells Zx 33 (0, 0))) := by rw [← hw1]; exact new_at1 w _ _
  have HW := Lib.hid hw1
  have HN1 : Hid (w1.heap.size = w.heap.size + 2) := by show _ = _; rw [← hw1]; simp
  have HRD : Hid (∀ w', Below w.heap.size w w' → RdS w' (fun b => S b ∧ b < w.heap.size) A2 (intsV gt)) := fun w' hb => by
    have h1 : Rv w (fun b => S b ∧ b < w.heap.size) (.slice A2 gt.length c2) (intsD gt) := rv_tight (rv_ints.2 ⟨A2, c2, rfl, hrd, hA2, by rw [hgl]; exact hc2, hm2⟩)
    obtain ⟨A', c', e1, h2, _⟩ := rv_ints.1 (h1.kept hb (fun _ h => h.2))
    injection e1 with e1
    rw [e1]
    exact h2
  have HRV : Hid (∀ w', Below w.heap.size w w' → Rv w' (fun b => S b ∧ b < w.heap.size) (.slice A2 256 c2) (intsD gt)) := fun w' hb => rv_ints.2 ⟨A2, c2, by rw [hgl], HRD.out w' hb, hA2, by rw [hgl]; exact hc2, hm2⟩
  obtain ⟨ad, had⟩ : ∃ ad, A2 = some ad := by
    obtain ⟨ad, h, _⟩ := HRD.out w (Below.refl _ _) 0 _ (intsV_get (List.getElem?_eq_getElem (by rw [hgl]; omega)))
    exact ⟨ad, h⟩
  subst had
  have hU := hx.next
  have hfb := hx.fin
  have hdf := hx.done
  have HBY := Lib.hid hx.bytes
  dsimp only at hU hfb hdf HBY
  rw [HWN.out] at hfb
  obtain ⟨hU0, hU1⟩ := hU
  obtain ⟨ha0, ha1⟩ := ha
  rw [hn] at hD
  have HGL := Lib.hid hgl
  have HNN := Lib.hid hn
  have HMM := Lib.hid hm
  rw [hm] at hml
  have HDS : Hid ((⟨D.toArray⟩ : ByteArray).size = n) := (txt_size D).trans hn
  have HTS : Hid ((⟨dt.toArray⟩ : ByteArray).size = m) := (txt_size dt).trans hm
  clear hr hrd hw1 hx hgl hn hm
  cases dn
  · have hf0 : fn ≠ 0 := fun h => by
      have := hdf.2 h
      cases this
    obtain ⟨d, hd⟩ : ∃ d, diffS a nx = d := ⟨_, rfl⟩
    have hdb := diff_lo a nx
    rw [hd] at hdb
    obtain ⟨hd0, hd1⟩ := hdb
    have HACC : Hid (acceptX ⟨nx, dt, gt, fn, false⟩ a D e = endX (takeX ⟨nx, dt, gt, fn, false⟩ (layX ⟨nx, dt, gt, fn, false⟩ d D (finX ⟨nx, dt, gt, fn, false⟩ d n e)) (finX ⟨nx, dt, gt, fn, false⟩ d n e))) := by
      show _ = _
      unfold acceptX
      rw [if_neg (by simp), hd, HNN.out]
    have HDF : Hid (∀ w, Calls Try.prog 29 #[.int .u32 a, .int .u32 nx] w fun e w' => e = .returned (.int .i64 d) ∧ w = w') := fun w => by
      have := sqrefdiff_any a nx w ha0 ha1 hU0 hU1
      rwa [hd] at this
    have HWD : Hid (∀ (f : Int) (w' : World), Below w.heap.size w w' → Calls Try.prog 19 #[.agg #[.int .u32 nx, txtV dt, .slice (some ad) 256 c2, .int .i64 f, .bool false]] w' fun e w'' => e = .returned (.int .i64 (256 - (m : Int))) ∧ Below w'.heap.size w' w'') := fun f w' hb => by
      have := refwindow_any ⟨nx, dt, gt, f, false⟩ #[.int .u32 nx, txtV dt, .slice (some ad) 256 c2, .int .i64 f, .bool false] (fun b => S b ∧ b < w.heap.size) w' (rx_make (x := ⟨nx, dt, gt, f, false⟩) (HRV.out w' hb)) (by show dt.length ≤ 1000; rw [HMM.out]; omega)
      rwa [HWN.out] at this
    clear hdf hd
    unfold txtV at HX1 HW HWD ⊢
    obtain ⟨TD, hTD⟩ : ∃ TD : ByteArray, ⟨D.toArray⟩ = TD := ⟨_, rfl⟩
    obtain ⟨TX, hTX⟩ : ∃ TX : ByteArray, ⟨dt.toArray⟩ = TX := ⟨_, rfl⟩
    rw [hTD] at HDS ⊢
    rw [hTX] at HTS HX1 HW HWD ⊢
    have hds := HDS.out
    have hts := HTS.out
    have HTD := Lib.hid hTD
    have HTX := Lib.hid hTX
    clear hTD hTX
    go_enter Try.func15, Try.ntmps15
    go_upto_region 1 with (fail)
    change Code.wp _ _ _ _ ((w.alloc (.cells #[.int .u32 nx, .string TX, .slice (some ad) 256 c2, .int .i64 fn, .bool false] 33)).alloc (.cells Zx 33))
    rw [HW.out]
    clear HW
    obtain ⟨c0, c1, c2', c3, c4⟩ := five_cells HX1.out
    go_wp2_with fail
    refine (HDF.out w1).mono ?_
    rintro e1 w1' ⟨rfl, rfl⟩
    go_upto_region 5 with (fail)
    go_cut [43] (fun t43 wx => ∃ b : Bool, t43 = .bool b ∧ Hid (b = decide (e = true ∧ fn < 0 ∧ 0 ≤ d + n ∧ d + n ≤ 256 - (m : Int))) ∧ Hid (wx.heap[w.heap.size]? = some (.cells #[.int .u32 nx, .string TX, .slice (some ad) 256 c2, .int .i64 fn, .bool false] 33 (0, 0))) ∧ Hid (wx.heap[w.heap.size + 1]? = some (.cells Zx 33 (0, 0))) ∧ Hid (Below w.heap.size w wx))
    case first =>
      cases e
      · have HF : Hid (false = decide (false = true ∧ fn < 0 ∧ 0 ≤ d + n ∧ d + n ≤ 256 - (m : Int))) := (decide_eq_false (by simp)).symm
        go_wp2_with fail
        go_meet
        case rel => exact ⟨false, rfl, HF, HX1, HZ1, HB1⟩
      · rcases Int.lt_or_le fn 0 with h1 | h1
        · rcases Int.lt_or_le (d + n) 0 with h2 | h2
          · have HF : Hid (false = decide (true = true ∧ fn < 0 ∧ 0 ≤ d + n ∧ d + n ≤ 256 - (m : Int))) := (decide_eq_false (by omega)).symm
            go_wp2_with fail
            go_meet
            case rel => exact ⟨false, rfl, HF, HX1, HZ1, HB1⟩
          · go_wp2_with fail
            refine (HWD.out fn w1 HB1.out).mono ?_
            rintro e2 w2 ⟨rfl, hb2⟩
            have HX2 := Lib.hid (old_below HX1.out hb2 (row_lt HX1.out))
            have HZ2 := Lib.hid (old_below HZ1.out hb2 (row_lt HZ1.out))
            have HB2 := Lib.hid (HB1.out.trans (hb2.mono HB1.out.size))
            clear hb2
            have HF : Hid (decide (d + (n : Int) ≤ 256 - (m : Int)) = decide (true = true ∧ fn < 0 ∧ 0 ≤ d + n ∧ d + n ≤ 256 - (m : Int))) := decide_eq_decide.2 (by constructor <;> intro h <;> first | exact ⟨rfl, h1, h2, h⟩ | exact h.2.2.2)
            go_wp2_with fail
            go_meet
            case rel => exact ⟨decide (d + (n : Int) ≤ 256 - (m : Int)), rfl, HF, HX2, HZ2, HB2⟩
        · have HF : Hid (false = decide (true = true ∧ fn < 0 ∧ 0 ≤ d + n ∧ d + n ≤ 256 - (m : Int))) := (decide_eq_false (by omega)).symm
          have h1' : ¬ fn < 0 := by omega
          go_wp2_with fail
          go_meet
          case rel => exact ⟨false, rfl, HF, HX1, HZ1, HB1⟩
    case rest =>
    obtain ⟨bc, rfl, HBC, HX2, HZ2, HB2⟩ := hcut
    clear HX1 HZ1 HB1 c0 c1 c2' c3 c4
    rename World => wc
    go_upto_if 43 with (fail)
    obtain ⟨f, hf⟩ : ∃ f, finX ⟨nx, dt, gt, fn, false⟩ d n e = f := ⟨_, rfl⟩
    have HFE : Hid (finX ⟨nx, dt, gt, fn, false⟩ d n e = if e = true ∧ fn < 0 ∧ 0 ≤ d + n ∧ d + n ≤ 256 - (m : Int) ∧ beyondX gt (d + n) = false then d + n else fn) := by
      show _ = _
      unfold finX
      rw [HWN.out]
    have HFI := Lib.hid hf
    rw [hf] at HACC
    clear hf
    obtain ⟨c0, c1, c2', c3, c4⟩ := five_cells HX2.out
    go_cut [] (fun wx => Hid (wx.heap[w.heap.size]? = some (.cells #[.int .u32 nx, .string TX, .slice (some ad) 256 c2, .int .i64 f, .bool false] 33 (0, 0))) ∧ Hid (wx.heap[w.heap.size + 1]? = some (.cells Zx 33 (0, 0))) ∧ Hid (Below w.heap.size w wx))
    case first =>
      cases bc
      · have HFF : Hid (f = fn) := by
          have hc := of_decide_eq_false HBC.out.symm
          show _ = _
          rw [← HFI.out, HFE.out, if_neg (fun h => hc ⟨h.1, h.2.1, h.2.2.1, h.2.2.2.1⟩)]
        go_wp2_with fail
        go_meet
        case rel => exact ⟨by rw [HFF.out]; exact HX2, HZ2, HB2⟩
      · obtain ⟨hce, hc1, hc2e, hc3⟩ := of_decide_eq_true HBC.out.symm
        have HFB : Hid (f = if beyondX gt (d + n) = false then d + n else fn) := by
          show _ = _
          rw [← HFI.out, HFE.out]
          cases hby : beyondX gt (d + n)
          · rw [if_pos ⟨hce, hc1, hc2e, hc3, rfl⟩, if_pos rfl]
          · rw [if_neg (by simp), if_neg (by simp)]
        have hfz := frozen_of_row _ _ 3 _ _ HX2.out
        clear HBC
        go_wp2
        go_loopw [11, 12] (fun t11 t12 wr => ∃ (i : Nat) (b : Bool), (d + n).toNat ≤ i ∧ i ≤ 256 ∧ t12 = .int .i64 (i : Int) ∧ t11 = .bool b ∧ Hid (b = ((gt.drop (d + n).toNat).take (i - (d + n).toNat)).any (fun z => decide (0 ≤ z))) ∧ wc = wr) (fun _ t12 _ => 256 - (intOf t12).toNat)
        case atStart => exact ⟨(d + n).toNat, false, Nat.le_refl _, by omega, by rw [Int.toNat_of_nonneg hc2e], rfl, Lib.hid (by simp), rfl⟩
        case round =>
          obtain ⟨i, b, hei, hi, rfl, rfl, HBI, rfl⟩ := hrel
          by_cases hlt : i < 256
          · obtain ⟨z, hz⟩ : ∃ z, gt[i]? = some z := ⟨_, List.getElem?_eq_getElem (by rw [HGL.out]; exact hlt)⟩
            obtain ⟨ad', had, hcz⟩ := rds_at (HRD.out _ HB2.out) hz
            injection had with had
            subst had
            have HAN := Lib.hid (any_take hz hei)
            rw [← HBI.out] at HAN
            clear hz
            cases b
            · have HNX : Hid (decide (0 ≤ z) = ((gt.drop (d + n).toNat).take (i + 1 - (d + n).toNat)).any (fun z => decide (0 ≤ z))) := by
                show _ = _
                rw [HAN.out, Bool.false_or]
              go_wp2
              go_roundw
              case rel => exact ⟨i + 1, decide (0 ≤ z), by omega, by omega, by go_num, rfl, HNX, by first | rfl | trivial⟩
              case measure => simp [intOf]; omega
            · have HNX : Hid (true = ((gt.drop (d + n).toNat).take (i + 1 - (d + n).toNat)).any (fun z => decide (0 ≤ z))) := by
                show _ = _
                rw [HAN.out, Bool.true_or]
              go_wp2
              go_roundw
              case rel => exact ⟨i + 1, true, by omega, by omega, by go_num, rfl, HNX, by first | rfl | trivial⟩
              case measure => simp [intOf]; omega
          · obtain rfl : i = 256 := by omega
            have HBY2 : Hid (b = beyondX gt (d + n)) := by
              show _ = _
              rw [HBI.out]
              unfold beyondX
              rw [List.take_of_length_le (by rw [List.length_drop, HGL.out]; exact Nat.le_refl _)]
            rw [← HBY2.out] at HFB
            cases b
            · rw [if_pos rfl] at HFB
              have HX3 := Lib.hid (heap_setCell_same _ w.heap.size 3 _ _ (.int .i64 (d + n)) HX2.out)
              have HZ3 := Lib.hid ((heap_setCell_other _ ⟨w.heap.size, 3, none⟩ (w.heap.size + 1) (.int .i64 (d + n)) (by simp)).trans HZ2.out)
              have HB3 := Lib.hid (HB2.out.setCell (p := ⟨w.heap.size, 3, none⟩) (Nat.le_refl _) (.int .i64 (d + n)))
              go_wp2
              go_meet
              case rel => exact ⟨by rw [HFB.out]; exact HX3, HZ3, HB3⟩
            · rw [if_neg (by simp)] at HFB
              go_wp2
              go_meet
              case rel => exact ⟨by rw [HFB.out]; exact HX2, HZ2, HB2⟩
    case rest =>
    obtain ⟨HX3, HZ3, HB3⟩ := hcut
    clear HX2 HZ2 HB2 c0 c1 c2' c3 c4 HBC
    obtain ⟨i0, hi0, hz0, hz1, hz2⟩ := int_parts
    have hfr : f = -1 ∨ 0 ≤ f ∧ f ≤ 256 := by
      have h1 := HFI.out
      rw [HFE.out] at h1
      split at h1 <;> omega
    go_wp2
    go_loopw [13, 14] (fun t13 t14 wr => ∃ i : Nat, i ≤ 256 ∧ t14 = .int .i64 (i : Int) ∧ Hid (wr.ownsRow (w.heap.size + 2) 3 1 t13 i (intsV ((layX ⟨nx, dt, gt, fn, false⟩ d D f).take i))) ∧ Hid (wr.heap[w.heap.size]? = some (.cells #[.int .u32 nx, .string TX, .slice (some ad) 256 c2, .int .i64 f, .bool false] 33 (0, 0))) ∧ Hid (wr.heap[w.heap.size + 1]? = some (.cells Zx 33 (0, 0))) ∧ Hid (Below w.heap.size w wr)) (fun _ t14 _ => 256 - (intOf t14).toNat)
    case atStart => exact ⟨0, Nat.zero_le _, rfl, World.ownsRow_nil _ _ _ _, HX3, HZ3, HB3⟩
    case round =>
      obtain ⟨i, hi, rfl, HOW, HXW, HZW, HBW⟩ := hrel
      clear HX3 HZ3 HB3
      generalize u13 = v13 at HOW ⊢
      obtain ⟨c0, c1, c2', c3, c4⟩ := five_cells HXW.out
      by_cases hlt : i < 256
      · obtain ⟨c, hc⟩ : ∃ c, gt[i]? = some c := ⟨_, List.getElem?_eq_getElem (by rw [HGL.out]; exact hlt)⟩
        obtain ⟨ad', had, hcz⟩ := rds_at (HRD.out _ HBW.out) hc
        injection had with had
        subst had
        have HLT := Lib.hid (lay_take (x := ⟨nx, dt, gt, fn, false⟩) (d := d) (D := D) (f := f) hc)
        clear hc
        rcases Int.lt_or_le c 0 with hc0 | hc0
        · rcases Int.lt_or_le (i : Int) d with hid | hid
          · have HLV : Hid (layI ⟨nx, dt, gt, fn, false⟩ d D f i c = c) := if_neg (fun h => by rw [HWN.out, HNN.out] at h; omega)
            have hid' : ¬ d ≤ (i : Int) := by omega
            go_wp2_with (at_builtin; refine wpList_append_elem rfl _ _ 31 rfl (w.heap.size + 2) 3 i0 _ 1 8 Try.underlying31 hi0 hz0 hz1 hz2 rfl (by decide) v13 i (intsV ((layX ⟨nx, dt, gt, fn, false⟩ d D f).take i)) rfl (ownk_below HOW.out ((Below.refl _ _).alloc (Nat.le_refl _) _) (Nat.le_refl _)) wr.heap.size 1 #[.int .i64 c] 3 (0, 0) rfl (heap_alloc_new wr _) rfl (fun u hu => by simp at hu; subst hu; rfl) (by unfold maxLen; omega) (by omega) (by have := row_lt HZW.out; simp; omega) ?_; intro v6 w6 hown6 hgrow6 _; have HOW6 := Lib.hid hown6; have HGW6 := Lib.hid hgrow6; clear hown6 hgrow6)
            have HX6 : Hid (w6.heap[w.heap.size]? = some (.cells #[.int .u32 nx, .string TX, .slice (some ad) 256 c2, .int .i64 f, .bool false] 33 (0, 0))) := (HGW6.out.block _ (by simp; have := row_lt HXW.out; omega) (fun e => by have := (HOW.out.lt _ e.symm).1; omega)).trans (old_alloc HXW.out _)
            have HZ6 : Hid (w6.heap[w.heap.size + 1]? = some (.cells Zx 33 (0, 0))) := (HGW6.out.block _ (by simp; have := row_lt HZW.out; omega) (fun e => by have := (HOW.out.lt _ e.symm).1; omega)).trans (old_alloc HZW.out _)
            have HB6 : Hid (Below w.heap.size w w6) := (HBW.out.alloc HBW.out.size _).grown HGW6.out (by have := HBW.out.size; simp; omega) fun g hg => by have := (HOW.out.lt g hg).1; omega
            have HO6 : Hid (w6.ownsRow (w.heap.size + 2) 3 1 v6 (i + 1) (intsV ((layX ⟨nx, dt, gt, fn, false⟩ d D f).take (i + 1)))) := by
              show World.ownsRow _ _ _ _ _ _ _
              rw [HLT.out, HLV.out, intsV_append]
              exact HOW6.out
            clear HOW6 HGW6
            go_wp2
            go_roundw
            case rel => exact ⟨i + 1, by omega, by go_num, HO6, HX6, HZ6, HB6⟩
            case measure => simp [intOf]; omega
          · rcases Int.lt_or_le (i : Int) (d + n) with hie | hie
            · rcases Int.lt_or_le (i : Int) (256 - (m : Int)) with hiw | hiw
              · rcases Int.lt_or_le f 0 with hf1 | hf1
                · obtain ⟨j, hsub⟩ : ∃ j : Nat, (i : Int) - d = (j : Int) := ⟨((i : Int) - d).toNat, by omega⟩
                  have hjn : j < n := by omega
                  obtain ⟨b, hbj⟩ : ∃ b, D[j]? = some b := ⟨_, List.getElem?_eq_getElem (by rw [HNN.out]; exact hjn)⟩
                  have HLV : Hid (layI ⟨nx, dt, gt, fn, false⟩ d D f i c = (b.toNat : Int)) := by
                    show _ = _
                    unfold layI
                    rw [if_pos (by rw [HWN.out, HNN.out]; exact ⟨hc0, hid, hie, hiw, .inl hf1⟩), hsub, Int.toNat_natCast, hbj]
                  have hidx : ∀ w : World, (Instr.index 9 (.string TD) (.int .i64 (j : Int))).run Try.prog w = .ok (.int .u8 (b.toNat : Int)) w := fun w => by
                    rw [run_index_string w _ _ _ _ Try.underlying9, dif_pos ⟨by omega, by omega⟩]
                    congr 3
                    have hbj2 := (List.getElem?_eq_some_iff.1 hbj).2
                    simp only [Int.toNat_natCast]
                    rw [← hbj2]
                    congr 1
                    simp only [← HTD.out]
                    rfl
                  have hb8 := b.toNat_lt
                  clear hbj
                  go_wp2_with fail
                  refine (HWD.out f wr HBW.out).mono ?_
                  rintro e9 w9 ⟨rfl, hb9⟩
                  replace HXW := Lib.hid (old_below HXW.out hb9 (row_lt HXW.out))
                  replace HZW := Lib.hid (old_below HZW.out hb9 (row_lt HZW.out))
                  replace HBW := Lib.hid (HBW.out.trans (hb9.mono HBW.out.size))
                  replace HOW := Lib.hid (ownk_below HOW.out hb9 (Nat.le_refl _))
                  clear hb9 c0 c1 c2' c3 c4
                  obtain ⟨c0, c1, c2', c3, c4⟩ := five_cells HXW.out
                  go_wp2_with (at_builtin; refine wpList_append_elem rfl _ _ 31 rfl (w.heap.size + 2) 3 i0 _ 1 8 Try.underlying31 hi0 hz0 hz1 hz2 rfl (by decide) v13 i (intsV ((layX ⟨nx, dt, gt, fn, false⟩ d D f).take i)) rfl (ownk_below HOW.out ((Below.refl _ _).alloc (Nat.le_refl _) _) (Nat.le_refl _)) w9.heap.size 1 #[.int .i64 (b.toNat : Int)] 3 (0, 0) rfl (heap_alloc_new w9 _) rfl (fun u hu => by simp at hu; subst hu; rfl) (by unfold maxLen; omega) (by omega) (by have := row_lt HZW.out; simp; omega) ?_; intro v6 w6 hown6 hgrow6 _; have HOW6 := Lib.hid hown6; have HGW6 := Lib.hid hgrow6; clear hown6 hgrow6)
                  have HX6 : Hid (w6.heap[w.heap.size]? = some (.cells #[.int .u32 nx, .string TX, .slice (some ad) 256 c2, .int .i64 f, .bool false] 33 (0, 0))) := (HGW6.out.block _ (by simp; have := row_lt HXW.out; omega) (fun e => by have := (HOW.out.lt _ e.symm).1; omega)).trans (old_alloc HXW.out _)
                  have HZ6 : Hid (w6.heap[w.heap.size + 1]? = some (.cells Zx 33 (0, 0))) := (HGW6.out.block _ (by simp; have := row_lt HZW.out; omega) (fun e => by have := (HOW.out.lt _ e.symm).1; omega)).trans (old_alloc HZW.out _)
                  have HB6 : Hid (Below w.heap.size w w6) := (HBW.out.alloc HBW.out.size _).grown HGW6.out (by have := HBW.out.size; simp; omega) fun g hg => by have := (HOW.out.lt g hg).1; omega
                  have HO6 : Hid (w6.ownsRow (w.heap.size + 2) 3 1 v6 (i + 1) (intsV ((layX ⟨nx, dt, gt, fn, false⟩ d D f).take (i + 1)))) := by
                    show World.ownsRow _ _ _ _ _ _ _
                    rw [HLT.out, HLV.out, intsV_append]
                    exact HOW6.out
                  clear HOW6 HGW6
                  go_wp2
                  go_roundw
                  case rel => exact ⟨i + 1, by omega, by go_num, HO6, HX6, HZ6, HB6⟩
                  case measure => simp [intOf]; omega
                · have hf1' : ¬ f < 0 := by omega
                  rcases Int.lt_or_le (i : Int) f with hif | hif
                  · obtain ⟨j, hsub⟩ : ∃ j : Nat, (i : Int) - d = (j : Int) := ⟨((i : Int) - d).toNat, by omega⟩
                    have hjn : j < n := by omega
                    obtain ⟨b, hbj⟩ : ∃ b, D[j]? = some b := ⟨_, List.getElem?_eq_getElem (by rw [HNN.out]; exact hjn)⟩
                    have HLV : Hid (layI ⟨nx, dt, gt, fn, false⟩ d D f i c = (b.toNat : Int)) := by
                      show _ = _
                      unfold layI
                      rw [if_pos (by rw [HWN.out, HNN.out]; exact ⟨hc0, hid, hie, hiw, .inr hif⟩), hsub, Int.toNat_natCast, hbj]
                    have hidx : ∀ w : World, (Instr.index 9 (.string TD) (.int .i64 (j : Int))).run Try.prog w = .ok (.int .u8 (b.toNat : Int)) w := fun w => by
                      rw [run_index_string w _ _ _ _ Try.underlying9, dif_pos ⟨by omega, by omega⟩]
                      congr 3
                      have hbj2 := (List.getElem?_eq_some_iff.1 hbj).2
                      simp only [Int.toNat_natCast]
                      rw [← hbj2]
                      congr 1
                      simp only [← HTD.out]
                      rfl
                    have hb8 := b.toNat_lt
                    clear hbj
                    go_wp2_with fail
                    refine (HWD.out f wr HBW.out).mono ?_
                    rintro e9 w9 ⟨rfl, hb9⟩
                    replace HXW := Lib.hid (old_below HXW.out hb9 (row_lt HXW.out))
                    replace HZW := Lib.hid (old_below HZW.out hb9 (row_lt HZW.out))
                    replace HBW := Lib.hid (HBW.out.trans (hb9.mono HBW.out.size))
                    replace HOW := Lib.hid (ownk_below HOW.out hb9 (Nat.le_refl _))
                    clear hb9 c0 c1 c2' c3 c4
                    obtain ⟨c0, c1, c2', c3, c4⟩ := five_cells HXW.out
                    go_wp2_with (at_builtin; refine wpList_append_elem rfl _ _ 31 rfl (w.heap.size + 2) 3 i0 _ 1 8 Try.underlying31 hi0 hz0 hz1 hz2 rfl (by decide) v13 i (intsV ((layX ⟨nx, dt, gt, fn, false⟩ d D f).take i)) rfl (ownk_below HOW.out ((Below.refl _ _).alloc (Nat.le_refl _) _) (Nat.le_refl _)) w9.heap.size 1 #[.int .i64 (b.toNat : Int)] 3 (0, 0) rfl (heap_alloc_new w9 _) rfl (fun u hu => by simp at hu; subst hu; rfl) (by unfold maxLen; omega) (by omega) (by have := row_lt HZW.out; simp; omega) ?_; intro v6 w6 hown6 hgrow6 _; have HOW6 := Lib.hid hown6; have HGW6 := Lib.hid hgrow6; clear hown6 hgrow6)
                    have HX6 : Hid (w6.heap[w.heap.size]? = some (.cells #[.int .u32 nx, .string TX, .slice (some ad) 256 c2, .int .i64 f, .bool false] 33 (0, 0))) := (HGW6.out.block _ (by simp; have := row_lt HXW.out; omega) (fun e => by have := (HOW.out.lt _ e.symm).1; omega)).trans (old_alloc HXW.out _)
                    have HZ6 : Hid (w6.heap[w.heap.size + 1]? = some (.cells Zx 33 (0, 0))) := (HGW6.out.block _ (by simp; have := row_lt HZW.out; omega) (fun e => by have := (HOW.out.lt _ e.symm).1; omega)).trans (old_alloc HZW.out _)
                    have HB6 : Hid (Below w.heap.size w w6) := (HBW.out.alloc HBW.out.size _).grown HGW6.out (by have := HBW.out.size; simp; omega) fun g hg => by have := (HOW.out.lt g hg).1; omega
                    have HO6 : Hid (w6.ownsRow (w.heap.size + 2) 3 1 v6 (i + 1) (intsV ((layX ⟨nx, dt, gt, fn, false⟩ d D f).take (i + 1)))) := by
                      show World.ownsRow _ _ _ _ _ _ _
                      rw [HLT.out, HLV.out, intsV_append]
                      exact HOW6.out
                    clear HOW6 HGW6
                    go_wp2
                    go_roundw
                    case rel => exact ⟨i + 1, by omega, by go_num, HO6, HX6, HZ6, HB6⟩
                    case measure => simp [intOf]; omega
                  · have HLV : Hid (layI ⟨nx, dt, gt, fn, false⟩ d D f i c = c) := if_neg (fun h => by rw [HWN.out, HNN.out] at h; omega)
                    have hif' : ¬ (i : Int) < f := by omega
                    go_wp2_with fail
                    refine (HWD.out f wr HBW.out).mono ?_
                    rintro e9 w9 ⟨rfl, hb9⟩
                    replace HXW := Lib.hid (old_below HXW.out hb9 (row_lt HXW.out))
                    replace HZW := Lib.hid (old_below HZW.out hb9 (row_lt HZW.out))
                    replace HBW := Lib.hid (HBW.out.trans (hb9.mono HBW.out.size))
                    replace HOW := Lib.hid (ownk_below HOW.out hb9 (Nat.le_refl _))
                    clear hb9 c0 c1 c2' c3 c4
                    obtain ⟨c0, c1, c2', c3, c4⟩ := five_cells HXW.out
                    go_wp2_with (at_builtin; refine wpList_append_elem rfl _ _ 31 rfl (w.heap.size + 2) 3 i0 _ 1 8 Try.underlying31 hi0 hz0 hz1 hz2 rfl (by decide) v13 i (intsV ((layX ⟨nx, dt, gt, fn, false⟩ d D f).take i)) rfl (ownk_below HOW.out ((Below.refl _ _).alloc (Nat.le_refl _) _) (Nat.le_refl _)) w9.heap.size 1 #[.int .i64 c] 3 (0, 0) rfl (heap_alloc_new w9 _) rfl (fun u hu => by simp at hu; subst hu; rfl) (by unfold maxLen; omega) (by omega) (by have := row_lt HZW.out; simp; omega) ?_; intro v6 w6 hown6 hgrow6 _; have HOW6 := Lib.hid hown6; have HGW6 := Lib.hid hgrow6; clear hown6 hgrow6)
                    have HX6 : Hid (w6.heap[w.heap.size]? = some (.cells #[.int .u32 nx, .string TX, .slice (some ad) 256 c2, .int .i64 f, .bool false] 33 (0, 0))) := (HGW6.out.block _ (by simp; have := row_lt HXW.out; omega) (fun e => by have := (HOW.out.lt _ e.symm).1; omega)).trans (old_alloc HXW.out _)
                    have HZ6 : Hid (w6.heap[w.heap.size + 1]? = some (.cells Zx 33 (0, 0))) := (HGW6.out.block _ (by simp; have := row_lt HZW.out; omega) (fun e => by have := (HOW.out.lt _ e.symm).1; omega)).trans (old_alloc HZW.out _)
                    have HB6 : Hid (Below w.heap.size w w6) := (HBW.out.alloc HBW.out.size _).grown HGW6.out (by have := HBW.out.size; simp; omega) fun g hg => by have := (HOW.out.lt g hg).1; omega
                    have HO6 : Hid (w6.ownsRow (w.heap.size + 2) 3 1 v6 (i + 1) (intsV ((layX ⟨nx, dt, gt, fn, false⟩ d D f).take (i + 1)))) := by
                      show World.ownsRow _ _ _ _ _ _ _
                      rw [HLT.out, HLV.out, intsV_append]
                      exact HOW6.out
                    clear HOW6 HGW6
                    go_wp2
                    go_roundw
                    case rel => exact ⟨i + 1, by omega, by go_num, HO6, HX6, HZ6, HB6⟩
                    case measure => simp [intOf]; omega
              · have HLV : Hid (layI ⟨nx, dt, gt, fn, false⟩ d D f i c = c) := if_neg (fun h => by rw [HWN.out, HNN.out] at h; omega)
                have hiw' : ¬ (i : Int) < 256 - (m : Int) := by omega
                go_wp2_with fail
                refine (HWD.out f wr HBW.out).mono ?_
                rintro e9 w9 ⟨rfl, hb9⟩
                replace HXW := Lib.hid (old_below HXW.out hb9 (row_lt HXW.out))
                replace HZW := Lib.hid (old_below HZW.out hb9 (row_lt HZW.out))
                replace HBW := Lib.hid (HBW.out.trans (hb9.mono HBW.out.size))
                replace HOW := Lib.hid (ownk_below HOW.out hb9 (Nat.le_refl _))
                clear hb9 c0 c1 c2' c3 c4
                obtain ⟨c0, c1, c2', c3, c4⟩ := five_cells HXW.out
                go_wp2_with (at_builtin; refine wpList_append_elem rfl _ _ 31 rfl (w.heap.size + 2) 3 i0 _ 1 8 Try.underlying31 hi0 hz0 hz1 hz2 rfl (by decide) v13 i (intsV ((layX ⟨nx, dt, gt, fn, false⟩ d D f).take i)) rfl (ownk_below HOW.out ((Below.refl _ _).alloc (Nat.le_refl _) _) (Nat.le_refl _)) w9.heap.size 1 #[.int .i64 c] 3 (0, 0) rfl (heap_alloc_new w9 _) rfl (fun u hu => by simp at hu; subst hu; rfl) (by unfold maxLen; omega) (by omega) (by have := row_lt HZW.out; simp; omega) ?_; intro v6 w6 hown6 hgrow6 _; have HOW6 := Lib.hid hown6; have HGW6 := Lib.hid hgrow6; clear hown6 hgrow6)
                have HX6 : Hid (w6.heap[w.heap.size]? = some (.cells #[.int .u32 nx, .string TX, .slice (some ad) 256 c2, .int .i64 f, .bool false] 33 (0, 0))) := (HGW6.out.block _ (by simp; have := row_lt HXW.out; omega) (fun e => by have := (HOW.out.lt _ e.symm).1; omega)).trans (old_alloc HXW.out _)
                have HZ6 : Hid (w6.heap[w.heap.size + 1]? = some (.cells Zx 33 (0, 0))) := (HGW6.out.block _ (by simp; have := row_lt HZW.out; omega) (fun e => by have := (HOW.out.lt _ e.symm).1; omega)).trans (old_alloc HZW.out _)
                have HB6 : Hid (Below w.heap.size w w6) := (HBW.out.alloc HBW.out.size _).grown HGW6.out (by have := HBW.out.size; simp; omega) fun g hg => by have := (HOW.out.lt g hg).1; omega
                have HO6 : Hid (w6.ownsRow (w.heap.size + 2) 3 1 v6 (i + 1) (intsV ((layX ⟨nx, dt, gt, fn, false⟩ d D f).take (i + 1)))) := by
                  show World.ownsRow _ _ _ _ _ _ _
                  rw [HLT.out, HLV.out, intsV_append]
                  exact HOW6.out
                clear HOW6 HGW6
                go_wp2
                go_roundw
                case rel => exact ⟨i + 1, by omega, by go_num, HO6, HX6, HZ6, HB6⟩
                case measure => simp [intOf]; omega
            · have HLV : Hid (layI ⟨nx, dt, gt, fn, false⟩ d D f i c = c) := if_neg (fun h => by rw [HWN.out, HNN.out] at h; omega)
              have hie' : ¬ (i : Int) < d + n := by omega
              go_wp2_with (at_builtin; refine wpList_append_elem rfl _ _ 31 rfl (w.heap.size + 2) 3 i0 _ 1 8 Try.underlying31 hi0 hz0 hz1 hz2 rfl (by decide) v13 i (intsV ((layX ⟨nx, dt, gt, fn, false⟩ d D f).take i)) rfl (ownk_below HOW.out ((Below.refl _ _).alloc (Nat.le_refl _) _) (Nat.le_refl _)) wr.heap.size 1 #[.int .i64 c] 3 (0, 0) rfl (heap_alloc_new wr _) rfl (fun u hu => by simp at hu; subst hu; rfl) (by unfold maxLen; omega) (by omega) (by have := row_lt HZW.out; simp; omega) ?_; intro v6 w6 hown6 hgrow6 _; have HOW6 := Lib.hid hown6; have HGW6 := Lib.hid hgrow6; clear hown6 hgrow6)
              have HX6 : Hid (w6.heap[w.heap.size]? = some (.cells #[.int .u32 nx, .string TX, .slice (some ad) 256 c2, .int .i64 f, .bool false] 33 (0, 0))) := (HGW6.out.block _ (by simp; have := row_lt HXW.out; omega) (fun e => by have := (HOW.out.lt _ e.symm).1; omega)).trans (old_alloc HXW.out _)
              have HZ6 : Hid (w6.heap[w.heap.size + 1]? = some (.cells Zx 33 (0, 0))) := (HGW6.out.block _ (by simp; have := row_lt HZW.out; omega) (fun e => by have := (HOW.out.lt _ e.symm).1; omega)).trans (old_alloc HZW.out _)
              have HB6 : Hid (Below w.heap.size w w6) := (HBW.out.alloc HBW.out.size _).grown HGW6.out (by have := HBW.out.size; simp; omega) fun g hg => by have := (HOW.out.lt g hg).1; omega
              have HO6 : Hid (w6.ownsRow (w.heap.size + 2) 3 1 v6 (i + 1) (intsV ((layX ⟨nx, dt, gt, fn, false⟩ d D f).take (i + 1)))) := by
                show World.ownsRow _ _ _ _ _ _ _
                rw [HLT.out, HLV.out, intsV_append]
                exact HOW6.out
              clear HOW6 HGW6
              go_wp2
              go_roundw
              case rel => exact ⟨i + 1, by omega, by go_num, HO6, HX6, HZ6, HB6⟩
              case measure => simp [intOf]; omega
        · have HLV : Hid (layI ⟨nx, dt, gt, fn, false⟩ d D f i c = c) := if_neg (fun h => by rw [HWN.out, HNN.out] at h; omega)
          have hc0' : ¬ c < 0 := by omega
          go_wp2_with (at_builtin; refine wpList_append_elem rfl _ _ 31 rfl (w.heap.size + 2) 3 i0 _ 1 8 Try.underlying31 hi0 hz0 hz1 hz2 rfl (by decide) v13 i (intsV ((layX ⟨nx, dt, gt, fn, false⟩ d D f).take i)) rfl (ownk_below HOW.out ((Below.refl _ _).alloc (Nat.le_refl _) _) (Nat.le_refl _)) wr.heap.size 1 #[.int .i64 c] 3 (0, 0) rfl (heap_alloc_new wr _) rfl (fun u hu => by simp at hu; subst hu; rfl) (by unfold maxLen; omega) (by omega) (by have := row_lt HZW.out; simp; omega) ?_; intro v6 w6 hown6 hgrow6 _; have HOW6 := Lib.hid hown6; have HGW6 := Lib.hid hgrow6; clear hown6 hgrow6)
          have HX6 : Hid (w6.heap[w.heap.size]? = some (.cells #[.int .u32 nx, .string TX, .slice (some ad) 256 c2, .int .i64 f, .bool false] 33 (0, 0))) := (HGW6.out.block _ (by simp; have := row_lt HXW.out; omega) (fun e => by have := (HOW.out.lt _ e.symm).1; omega)).trans (old_alloc HXW.out _)
          have HZ6 : Hid (w6.heap[w.heap.size + 1]? = some (.cells Zx 33 (0, 0))) := (HGW6.out.block _ (by simp; have := row_lt HZW.out; omega) (fun e => by have := (HOW.out.lt _ e.symm).1; omega)).trans (old_alloc HZW.out _)
          have HB6 : Hid (Below w.heap.size w w6) := (HBW.out.alloc HBW.out.size _).grown HGW6.out (by have := HBW.out.size; simp; omega) fun g hg => by have := (HOW.out.lt g hg).1; omega
          have HO6 : Hid (w6.ownsRow (w.heap.size + 2) 3 1 v6 (i + 1) (intsV ((layX ⟨nx, dt, gt, fn, false⟩ d D f).take (i + 1)))) := by
            show World.ownsRow _ _ _ _ _ _ _
            rw [HLT.out, HLV.out, intsV_append]
            exact HOW6.out
          clear HOW6 HGW6
          go_wp2
          go_roundw
          case rel => exact ⟨i + 1, by omega, by go_num, HO6, HX6, HZ6, HB6⟩
          case measure => simp [intOf]; omega

      · obtain rfl : i = 256 := by omega
        clear hi0 hz0 hz1 hz2
        obtain ⟨gl, hgl⟩ : ∃ gl, layX ⟨nx, dt, gt, fn, false⟩ d D f = gl := ⟨_, rfl⟩
        rw [hgl] at HACC HOW
        have hg256 : gl.length = 256 := by rw [← hgl]; simp [layX, HGL.out]
        have hgby : ∀ c ∈ gl, -1 ≤ c ∧ c ≤ 255 := by rw [← hgl]; exact lay_bytes HBY.out
        rw [List.take_of_length_le (Nat.le_of_eq hg256)] at HOW
        have HGB := Lib.hid hgby
        have HG6 := Lib.hid hg256
        clear hgl hgby hg256
        obtain ⟨gb, C13, cur13, rfl, hglo, hgh, -, hCm, -, -⟩ := ownk_some HOW.out (by omega)
        have hCm2 : C13 ≤ 9223372036854775807 := by unfold maxLen at hCm; omega
        have hC256 : 256 ≤ C13 := by
          obtain ⟨A', c', e1, h1, _⟩ := ownk_form HOW.out
          injection e1 with _ _ e1
          omega
        clear hgh
        have HGR : Hid (∀ w' : World, w'.ownsRow (w.heap.size + 2) 3 1 (.slice (some ⟨gb, 0, none⟩) 256 C13) 256 (intsV gl) → Rv w' (fun b => w.heap.size + 2 ≤ b) (.slice (some ⟨gb, 0, none⟩) 256 C13) (intsD gl)) := fun w' ho => rv_ints_own ho HG6.out (fun b h => h)
        go_wp2_with fail
        refine (reffront_any (.slice (some ⟨gb, 0, none⟩) 256 C13) gl _ wr (HGR.out wr HOW.out) (by rw [HG6.out]; omega) (fun c hc => (HGB.out c hc).2)).mono ?_
        rintro e9 w9 ⟨rfl, hb9⟩
        have HX9 := Lib.hid (old_below HXW.out hb9 (row_lt HXW.out))
        have HZ9 := Lib.hid (old_below HZW.out hb9 (row_lt HZW.out))
        have HB9 := Lib.hid (HBW.out.trans (hb9.mono HBW.out.size))
        have HO9 := Lib.hid (ownk_below HOW.out hb9 (Nat.le_refl _))
        clear hb9 HXW HZW HBW HOW c0 c1 c2' c3 c4
        have hk256 : (frontL gl).length ≤ 256 := by have := front_len gl; rw [HG6.out] at this; exact this
        obtain ⟨k, hk⟩ : ∃ k, (frontL gl).length = k := ⟨_, rfl⟩
        rw [hk] at hk256
        have HKK := Lib.hid hk
        obtain ⟨fr, hfrr⟩ : ∃ fr, frontL gl = fr := ⟨_, rfl⟩
        have HFR := Lib.hid hfrr
        rw [hfrr] at hk ⊢
        have hfs : (⟨fr.toArray⟩ : ByteArray).size = k := (txt_size fr).trans hk
        unfold txtV
        clear hfrr
        go_upto_region 22 with (fail)
        go_cut [124] (fun t124 wx => ∃ b2 : Bool, t124 = .bool b2 ∧ Hid (b2 = decide (fr ≠ [] ∨ runsN gl ≤ 8)) ∧ Hid (wx.ownsRow (w.heap.size + 2) 3 1 (.slice (some ⟨gb, 0, none⟩) 256 C13) 256 (intsV gl)) ∧ Hid (wx.heap[w.heap.size]? = some (.cells #[.int .u32 nx, .string TX, .slice (some ad) 256 c2, .int .i64 f, .bool false] 33 (0, 0))) ∧ Hid (wx.heap[w.heap.size + 1]? = some (.cells Zx 33 (0, 0))) ∧ Hid (Below w.heap.size w wx))
        case first =>
          by_cases hf0 : fr = []
          · subst hf0
            have hdec : decide (([] : List UInt8) ≠ [] ∨ runsN gl ≤ 8) = decide ((runsN gl : Int) ≤ 8) := decide_eq_decide.2 (by simp; omega)
            have HDE := Lib.hid hdec.symm
            clear hdec
            have hem : ((⟨([] : List UInt8).toArray⟩ : ByteArray)) = { data := #[] } := rfl
            rw [hem]
            go_wp2_with fail
            refine (refruns_any (.slice (some ⟨gb, 0, none⟩) 256 C13) gl _ w9 (HGR.out w9 HO9.out) (by rw [HG6.out]; omega)).mono ?_
            rintro e10 w10 ⟨rfl, hb10⟩
            have HX10 := Lib.hid (old_below HX9.out hb10 (row_lt HX9.out))
            have HZ10 := Lib.hid (old_below HZ9.out hb10 (row_lt HZ9.out))
            have HB10 := Lib.hid (HB9.out.trans (hb10.mono HB9.out.size))
            have HO10 := Lib.hid (ownk_below HO9.out hb10 (Nat.le_refl _))
            clear hb10
            go_wp2_with fail
            go_meet
            case rel => exact ⟨decide ((runsN gl : Int) ≤ 8), rfl, HDE, HO10, HX10, HZ10, HB10⟩
          · have hdec : decide (fr ≠ [] ∨ runsN gl ≤ 8) = true := decide_eq_true (.inl hf0)
            have HDE := Lib.hid hdec.symm
            clear hdec
            have hne2 : ((⟨fr.toArray⟩ : ByteArray).toList == ({ data := #[] } : ByteArray).toList) = false := by
              rw [beq_eq_false_iff_ne, ByteArray.toList_eq, ByteArray.toList_eq]
              simpa using hf0
            have hne3 : ((⟨fr.toArray⟩ : ByteArray).toList == []) = false := by
              rw [beq_eq_false_iff_ne, ByteArray.toList_eq]
              simpa using hf0
            have hne4 : ¬ (⟨fr.toArray⟩ : ByteArray).toList = [] := by
              rw [ByteArray.toList_eq]
              simpa using hf0
            generalize (⟨fr.toArray⟩ : ByteArray) = TF at *
            go_wp2_with fail
            go_meet
            case rel => exact ⟨true, rfl, HDE, HO9, HX9, HZ9, HB9⟩
        case rest =>
        obtain ⟨b2, rfl, HB2D, HO10, HX10, HZ10, HB10⟩ := hcut
        clear HX9 HZ9 HB9 HO9
        rename World => wd
        go_upto_if 124 with (fail)
        obtain ⟨y, hy⟩ : ∃ y, takeX ⟨nx, dt, gt, fn, false⟩ gl f = y := ⟨_, rfl⟩
        have HYY : Hid (y = if fr ≠ [] ∨ runsN gl ≤ 8 then ⟨addS nx k, dt ++ fr, gl.drop k ++ List.replicate k (-1), if 0 ≤ f then f - k else f, false⟩ else ⟨nx, dt, gt, f, false⟩) := by
          show _ = _
          rw [← hy]
          unfold takeX
          rw [HKK.out, HFR.out]
        rw [hy] at HACC
        clear hy
        obtain ⟨cur10, hgh10⟩ : ∃ cur : Array Value, wd.heap[gb]? = some (.cells cur 3 (0, 0)) := by
          obtain ⟨cur, h, _⟩ := own_at0 HO10.out (by omega)
          exact ⟨cur, h⟩
        have HGH := Lib.hid hgh10
        clear hgh10
        go_cut [13] (fun _ wx => ∃ (A9 : Option Addr) (c9 : Nat), Hid (wx.heap[w.heap.size]? = some (.cells #[.int .u32 y.next, txtV y.data, .slice A9 256 c9, .int .i64 y.fin, .bool false] 33 (0, 0))) ∧ Hid (Rv wx (fun b => (S b ∧ b < w.heap.size) ∨ w.heap.size + 2 ≤ b) (.slice A9 256 c9) (intsD y.got)) ∧ Hid (wx.heap[w.heap.size + 1]? = some (.cells Zx 33 (0, 0))) ∧ Hid (Below w.heap.size w wx))
        case first =>
          cases b2
          · have HYE : Hid (y = ⟨nx, dt, gt, f, false⟩) := by
              have hc := of_decide_eq_false HB2D.out.symm
              show _ = _
              rw [HYY.out, if_neg hc]
            go_wp2_with fail
            go_meet
            case rel =>
              refine ⟨some ad, c2, ?_, ?_, HZ10, HB10⟩
              · rw [HYE.out]
                show _ = _
                unfold txtV
                rw [HTX.out]
                exact HX10.out
              · rw [HYE.out]
                exact (HRV.out wd HB10.out).wide fun b h => .inl h
          · have HYE : Hid (y = ⟨addS nx k, dt ++ fr, gl.drop k ++ List.replicate k (-1), if 0 ≤ f then f - k else f, false⟩) := by
              have hc := of_decide_eq_true HB2D.out.symm
              show _ = _
              rw [HYY.out, if_pos hc]
            obtain ⟨TF, hTF⟩ : ∃ TF : ByteArray, ⟨fr.toArray⟩ = TF := ⟨_, rfl⟩
            have HTF := Lib.hid hTF
            rw [hTF] at hfs ⊢
            clear hTF HYY HB2D
            go_upto_region 23 with (fail)
            apply wp_region_relyG [7] (fun Ld w' => wd.grownBy w' (some gb) ∧ (Ld 7 = false → w'.ownsRow (w.heap.size + 2) 3 1 (.slice (some ⟨gb, 0, none⟩) 256 C13) 256 (intsV gl))) (RL [Is _, Is _, Is (.int .i64 (k : Int)), Is (.slice (if C13 = k then some (⟨gb, 0, none⟩ : Addr) else (some (⟨gb, 0, none⟩ : Addr)).map (·.add (k * 1))) (256 - k) (C13 - k)), Is _, Is (.int .i64 (k : Int)), OwnR wd.heap.size 3 1 k (intsV (List.replicate k (-1))), fun v w' => Rv w' (fun b => w.heap.size + 2 ≤ b) v (intsD (gl.drop k ++ (List.replicate k (-1)))), fun v w' => Rv w' (fun b => w.heap.size + 2 ≤ b) v (intsD (gl.drop k ++ (List.replicate k (-1))))]) [false, false, false, false, false, false, false, false, false, false, false, false, false, true, false, false, false, false, false, false, false, false, false, false, false, false, false, false, false, false, false, false, false, false, false, false, false, false, false, false, false, false, false, false, false, false, false, false, false, false, false, false, false, false, false, false, false, false, false, false, false, false, false, false, false, false, false, false, false, false, false, false, false, false, false, false, false, false, false, false, false, false, false, false, false, false, false, false, false, false, false, false, false, false, false, false, false, false, false, false, false, false, false, false, false, false, false, false, false, false, false, false, false, false, false, false, false, false, false, false, false, false, false, false, false, true, true, true, true, true, true, true, true, false, false, false, false, false, false, false, false, false, false, false, false, false, false, false, false, false, false, false, false, false, false, false, false, false, false, false, false, false, false, false]
            · kernel_rfl
            · kernel_rfl
            · kernel_rfl
            · refine ⟨?_, ?_, ?_, ?_, ?_, ?_, ?_, ?_, ?_, trivial⟩
              · intro Ld ev w' hC hL hx K hK
                have e13 : ev (.tmp 13) = _ := hx.old 8 _ 13 rfl rfl (Bool.eq_false_iff.2 fun h => by have h1 := hx.closed 8 _ 7 rfl h (by kernel_rfl); have h3 := hx.closed 7 _ 3 rfl h1 (by kernel_rfl); have h2 := hx.closed 3 _ 0 rfl h3 (by kernel_rfl); rw [hL] at h2; cases h2)
                have HK := Lib.hid hK
                have HC := Lib.hid hC
                have HL := Lib.hid hL
                have HX := Lib.hid hx
                have hc := hx.cst
                skip
                clear hx hK hC hL
                unfold Run
                simp [execOp, Upon, go_sem, *]
                exact HK.out _ _ (.inl ⟨Below.refl _ _, by decide⟩) rfl
              · intro Ld ev w' hC hL hx K hK
                have e16 : ev (.tmp 16) = _ := hx.base 16 (by kernel_rfl)
                have HK := Lib.hid hK
                have HC := Lib.hid hC
                have HL := Lib.hid hL
                have HX := Lib.hid hx
                have hc := hx.cst
                skip
                clear hx hK hC hL
                unfold Run
                simp [execOp, Upon, go_sem, *]
                exact HK.out _ _ (.inl ⟨Below.refl _ _, by decide⟩) rfl
              · intro Ld ev w' hC hL hx K hK
                have e126 := hx.held 1 _ rfl (by kernel_rfl)
                change ev (.tmp 126) = _ at e126
                have HK := Lib.hid hK
                have HC := Lib.hid hC
                have HL := Lib.hid hL
                have HX := Lib.hid hx
                have hc := hx.cst
                skip
                clear hx hK hC hL
                unfold Run
                simp [Upon, go_sem, *]
                exact HK.out _ _ (.inl ⟨Below.refl _ _, by decide⟩) rfl
              · intro Ld ev w' hC hL hx K hK
                have e125 := hx.held 0 _ rfl (by kernel_rfl)
                have e127 := hx.held 2 _ rfl (by kernel_rfl)
                change ev (.tmp 125) = _ at e125
                change ev (.tmp 127) = _ at e127
                have HK := Lib.hid hK
                have HC := Lib.hid hC
                have HL := Lib.hid hL
                have HX := Lib.hid hx
                have hc := hx.cst
                skip
                clear hx hK hC hL
                have q125 : ev (.tmp 125) = .slice (some ⟨gb, 0, none⟩) 256 C13 := e125
                have hrun : (Instr.slice 31 (.slice (some ⟨gb, 0, none⟩) 256 C13) (some (ev (.tmp 127))) none none).run Try.prog w' = .ok (.slice (if C13 = k then some (⟨gb, 0, none⟩ : Addr) else (some (⟨gb, 0, none⟩ : Addr)).map (·.add (k * 1))) (256 - k) (C13 - k)) w' := by
                  rw [e127]
                  exact run_slice_l (P := Try.prog) 31 3 1 Try.underlying31 (by kernel_rfl) (some ⟨gb, 0, none⟩) 256 C13 k (by omega) w'
                unfold Run
                rw [run_sliceE 31 _ (some _) none rfl Try.underlying31 q125 hrun]
                exact HK.out _ _ (.inl ⟨Below.refl _ _, by decide⟩) rfl
              · intro Ld ev w' hC hL hx K hK
                have e16 : ev (.tmp 16) = _ := hx.base 16 (by kernel_rfl)
                have HK := Lib.hid hK
                have HC := Lib.hid hC
                have HL := Lib.hid hL
                have HX := Lib.hid hx
                have hc := hx.cst
                skip
                clear hx hK hC hL
                unfold Run
                simp [execOp, Upon, go_sem, *]
                exact HK.out _ _ (.inl ⟨Below.refl _ _, by decide⟩) rfl
              · intro Ld ev w' hC hL hx K hK
                have e129 := hx.held 4 _ rfl (by kernel_rfl)
                change ev (.tmp 129) = _ at e129
                have HK := Lib.hid hK
                have HC := Lib.hid hC
                have HL := Lib.hid hL
                have HX := Lib.hid hx
                have hc := hx.cst
                skip
                clear hx hK hC hL
                unfold Run
                simp [Upon, go_sem, *]
                exact HK.out _ _ (.inl ⟨Below.refl _ _, by decide⟩) rfl
              · intro Ld ev w' hC hL hx K hK
                have e130 := hx.held 5 _ rfl (by kernel_rfl)
                change ev (.tmp 130) = _ at e130
                have HK := Lib.hid hK
                have HC := Lib.hid hC
                have HL := Lib.hid hL
                have HX := Lib.hid hx
                have hc := hx.cst
                have hf := hx.fn
                clear hx hK hC hL
                have HBL := Lib.hid (blank_any k w' (by omega))
                unfold Run
                simp [execOp, Upon, go_sem, *]
                refine HBL.out.mono ?_
                rintro e9 w9 ⟨v9, rfl, ho9, hb9⟩
                exact ⟨_, rfl, HK.out _ _ (.inl ⟨hb9, by decide⟩) (ownk_base ho9 HC.out.1.size)⟩
              · intro Ld ev w' hC hL hx K hK
                have e128 := hx.held 3 _ rfl (by kernel_rfl)
                have e131 := hx.held 6 _ rfl (by kernel_rfl)
                change ev (.tmp 128) = _ at e128
                change (OwnR wd.heap.size 3 1 k (intsV (List.replicate k (-1))) : Pred) (ev (.tmp 131)) w' at e131
                have HK := Lib.hid hK
                have HC := Lib.hid hC
                have HL := Lib.hid hL
                have HX := Lib.hid hx
                have hc := hx.cst
                skip
                clear hx hK hC hL
                have q128 : ev (.tmp 128) = .slice (if C13 = k then some (⟨gb, 0, none⟩ : Addr) else (some (⟨gb, 0, none⟩ : Addr)).map (·.add (k * 1))) (256 - k) (C13 - k) := e128
                have E131 := Lib.hid e131
                clear e131
                have e131 : OwnR wd.heap.size 3 1 k (intsV (List.replicate k (-1))) (ev (.tmp 131)) w' := E131.out
                obtain ⟨A3, c3, q131, -, -, hA3⟩ := ownk_form e131
                rw [q131] at e131
                obtain ⟨v7, w7, hrun, hv7, hg7⟩ := app_off (w.heap.size + 2) 256 k C13 gb k c3 A3 gl (List.replicate k (-1)) (fun b => wd.heap.size ≤ b) w' (HC.out.2 HL.out) HG6.out List.length_replicate (own_rds e131 (fun b h => h)) (by have := row_lt HGH.out; omega) (by omega) (by omega) (by omega) (by omega) hA3 (by have := HC.out.1.size; have := row_lt HZ10.out; omega)
                have HV7 := Lib.hid hv7
                have HG7 := Lib.hid hg7
                clear e131 hv7 hg7
                unfold Run
                rw [run_appendE _ _ 31 rfl q128 q131 hrun]
                refine HK.out _ _ (.inr ⟨⟨HC.out.1.trans HG7.out, fun h => by simp [upd] at h⟩, fun j hj hlj u hr => ?_⟩) HV7.out
                refine rl_sg (S := fun x y => wd.heap.size ≤ x.heap.size ∧ x.grownBy y (some gb)) (ex := [7, 8]) 0 (by exact ⟨.inr (is_sg _ _), .inr (is_sg _ _), .inr (is_sg _ _), .inr (is_sg _ _), .inr (is_sg _ _), .inr (is_sg _ _), .inr (fun u x y hxy ho => ownk_grown ho hxy.2 (by have := row_lt HGH.out; omega)), .inl rfl, .inl rfl, trivial⟩) j u _ _ ?_ ⟨HC.out.1.size, HG7.out⟩ hr
                have hj8 : j ≠ 8 := fun e => by
                  subst e
                  have h1 := HX.out.closed 8 _ 7 rfl hlj (by kernel_rfl)
                  rw [HL.out] at h1
                  cases h1
                simp at hj ⊢
                omega
              · intro Ld ev w' hC hL hx K hK
                have e132 := hx.held 7 _ rfl (by kernel_rfl)
                change (fun v w' => Rv w' (fun b => w.heap.size + 2 ≤ b) v (intsD (gl.drop k ++ (List.replicate k (-1)))) : Pred) (ev (.tmp 132)) w' at e132
                have HK := Lib.hid hK
                have HC := Lib.hid hC
                have HL := Lib.hid hL
                have HX := Lib.hid hx
                have hc := hx.cst
                skip
                clear hx hK hC hL
                have E132 := Lib.hid e132
                clear e132
                unfold Run
                simp [execOp, Upon, go_sem, *]
                exact HK.out _ _ (.inl ⟨Below.refl _ _, by decide⟩) E132.out
            · exact rl_mono ⟨is_mono _, is_mono _, is_mono _, is_mono _, is_mono _, is_mono _, ownr_mono _ _ _ _ _, rv_mono _ _, rv_mono _ _, trivial⟩
            · exact fun L1 L2 w1 he h => ⟨h.1, fun hh => h.2 (by rw [he 7 (by simp)]; exact hh)⟩
            · exact fun L1 w1 w2 hb h => ⟨grown_below h.1 hb, fun hh => ownk_below (h.2 hh) hb (Nat.le_refl _)⟩
            · exact ⟨World.grownBy.refl _ _, fun _ => HO10.out⟩
            · simp
            intro us wr hG hH
            obtain ⟨-, -, -, -, -, -, -, -, h8, -⟩ := hH
            simp only [fillM]
            change (fun v w' => Rv w' (fun b => w.heap.size + 2 ≤ b) v (intsD (gl.drop k ++ (List.replicate k (-1)))) : Pred) (us 13) wr at h8
            generalize us 125 = v125
            generalize us 126 = v126
            generalize us 127 = v127
            generalize us 128 = v128
            generalize us 129 = v129
            generalize us 130 = v130
            generalize us 131 = v131
            generalize us 132 = v132
            generalize us 13 = v13 at h8 ⊢
            change Rv wr (fun b => w.heap.size + 2 ≤ b) v13 (intsD (gl.drop k ++ (List.replicate k (-1)))) at h8
            have HVE := Lib.hid h8
            obtain ⟨A9, c9, rfl, -, -, -, -⟩ := rv_ints.1 h8
            have hlen9 : (gl.drop k ++ (List.replicate k (-1))).length = 256 := by rw [List.length_append, List.length_drop, List.length_replicate, HG6.out]; omega
            rw [hlen9] at HVE ⊢
            rename World => we
            have HXE : Hid (we.heap[w.heap.size]? = some (.cells #[.int .u32 nx, .string TX, .slice (some ad) 256 c2, .int .i64 f, .bool false] 33 (0, 0))) := (hG.1.block _ (row_lt HX10.out) (fun e => by injection e with e; omega)).trans HX10.out
            have HZE : Hid (we.heap[w.heap.size + 1]? = some (.cells Zx 33 (0, 0))) := (hG.1.block _ (row_lt HZ10.out) (fun e => by injection e with e; omega)).trans HZ10.out
            have HBE : Hid (Below w.heap.size w we) := HB10.out.trans (below_grown (v := .slice (some ⟨gb, 0, none⟩) 256 C13) hG.1 HB10.out.size (fun q hq => by have hq : some gb = some q := hq; injection hq with hq; omega))
            clear h8 hG HX10 HZ10 HB10 HO10 HGH HGR
            have hmk : ¬ (9223372036854775807 < m + k) := by omega
            go_upto_region 24 with (fail)
            apply wp_region_relyG [11, 13, 15] (fun Ld w' => we.grownBy w' (some w.heap.size) ∧ w'.heap[w.heap.size]? = some (.cells #[.int .u32 (if Ld 15 = true then addS nx k else nx), .string (if Ld 13 = true then TX ++ TF else TX), (if Ld 11 = true then .slice A9 256 c9 else .slice (some ad) 256 c2), .int .i64 f, .bool false] 33 (0, 0))) (RL [Is (.slice A9 256 c9), Is (.pointer (some ⟨w.heap.size, 1, none⟩)), Is (.string TX), Is (.string TF), Is (.string (TX ++ TF)), Is (.pointer (some ⟨w.heap.size, 0, none⟩)), Is (.int .u32 nx), Is (.string TF), Is (.int .i64 (k : Int)), Is (.int .u32 (addS nx k)), Is (.pointer (some ⟨w.heap.size, 2, none⟩)), Any, Is (.pointer (some ⟨w.heap.size, 1, none⟩)), Any, Is (.pointer (some ⟨w.heap.size, 0, none⟩)), Any]) [false, false, false, false, false, false, false, false, false, false, false, false, false, false, false, false, false, false, false, false, false, false, false, false, false, false, false, false, false, false, false, false, false, false, false, false, false, false, false, false, false, false, false, false, false, false, false, false, false, false, false, false, false, false, false, false, false, false, false, false, false, false, false, false, false, false, false, false, false, false, false, false, false, false, false, false, false, false, false, false, false, false, false, false, false, false, false, false, false, false, false, false, false, false, false, false, false, false, false, false, false, false, false, false, false, false, false, false, false, false, false, false, false, false, false, false, false, false, false, false, false, false, false, false, false, false, false, false, false, false, false, false, false, true, true, true, true, true, true, true, true, true, true, true, true, true, false, false, false, false, false, false, false, false, false, false, false, false, false, false, false, false, false, false]
            · kernel_rfl
            · kernel_rfl
            · kernel_rfl
            · refine ⟨?_, ?_, ?_, ?_, ?_, ?_, ?_, ?_, ?_, ?_, ?_, ?_, ?_, ?_, ?_, ?_, trivial⟩
              · intro Ld ev w' hC hL hx K hK
                have e13 : ev (.tmp 13) = _ := hx.base 13 (by kernel_rfl)
                have HK := Lib.hid hK
                have HC := Lib.hid hC
                have HL := Lib.hid hL
                have HX := Lib.hid hx
                have hc := hx.cst
                skip
                clear hx hK hC hL
                unfold Run
                simp [execOp, Upon, go_sem, *]
                exact HK.out _ _ (.inl ⟨Below.refl _ _, by decide⟩) rfl
              · intro Ld ev w' hC hL hx K hK
                have e4 : ev (.tmp 4) = _ := hx.base 4 (by kernel_rfl)
                have HK := Lib.hid hK
                have HC := Lib.hid hC
                have HL := Lib.hid hL
                have HX := Lib.hid hx
                have hc := hx.cst
                skip
                clear hx hK hC hL
                unfold Run
                simp [execOp, Upon, go_sem, *]
                exact HK.out _ _ (.inl ⟨Below.refl _ _, by decide⟩) rfl
              · intro Ld ev w' hC hL hx K hK
                have e134 := hx.held 1 _ rfl (by kernel_rfl)
                change ev (.tmp 134) = _ at e134
                have HK := Lib.hid hK
                have HC := Lib.hid hC
                have HL := Lib.hid hL
                have HX := Lib.hid hx
                have hc := hx.cst
                skip
                clear hx hK hC hL
                have hn : Ld 13 = false := Bool.eq_false_iff.2 fun h => by have g0 := HX.out.closed 13 _ 4 rfl h (by kernel_rfl); have g1 := HX.out.closed 4 _ 2 rfl g0 (by kernel_rfl); rw [HL.out] at g1; cases g1
                have hrow := HC.out.2
                rw [hn] at hrow
                have hcl : w'.cell? ⟨w.heap.size, 1, none⟩ = some (.string TX) := by rw [cell_of_row _ _ _ _ _ _ hrow]; rfl
                have HCL := Lib.hid hcl
                clear hrow hn
                unfold Run
                simp [execOp, Upon, go_sem, *]
                exact HK.out _ _ (.inl ⟨Below.refl _ _, by decide⟩) rfl
              · intro Ld ev w' hC hL hx K hK
                have e16 : ev (.tmp 16) = _ := hx.base 16 (by kernel_rfl)
                have HK := Lib.hid hK
                have HC := Lib.hid hC
                have HL := Lib.hid hL
                have HX := Lib.hid hx
                have hc := hx.cst
                skip
                clear hx hK hC hL
                unfold Run
                simp [execOp, Upon, go_sem, *]
                exact HK.out _ _ (.inl ⟨Below.refl _ _, by decide⟩) rfl
              · intro Ld ev w' hC hL hx K hK
                have e135 := hx.held 2 _ rfl (by kernel_rfl)
                have e136 := hx.held 3 _ rfl (by kernel_rfl)
                change ev (.tmp 135) = _ at e135
                change ev (.tmp 136) = _ at e136
                have HK := Lib.hid hK
                have HC := Lib.hid hC
                have HL := Lib.hid hL
                have HX := Lib.hid hx
                have hc := hx.cst
                skip
                clear hx hK hC hL
                unfold Run
                simp [execOp, Upon, go_sem, *]
                exact HK.out _ _ (.inl ⟨Below.refl _ _, by decide⟩) rfl
              · intro Ld ev w' hC hL hx K hK
                have e4 : ev (.tmp 4) = _ := hx.base 4 (by kernel_rfl)
                have HK := Lib.hid hK
                have HC := Lib.hid hC
                have HL := Lib.hid hL
                have HX := Lib.hid hx
                have hc := hx.cst
                skip
                clear hx hK hC hL
                unfold Run
                simp [execOp, Upon, go_sem, *]
                exact HK.out _ _ (.inl ⟨Below.refl _ _, by decide⟩) rfl
              · intro Ld ev w' hC hL hx K hK
                have e138 := hx.held 5 _ rfl (by kernel_rfl)
                change ev (.tmp 138) = _ at e138
                have HK := Lib.hid hK
                have HC := Lib.hid hC
                have HL := Lib.hid hL
                have HX := Lib.hid hx
                have hc := hx.cst
                skip
                clear hx hK hC hL
                have hn : Ld 15 = false := Bool.eq_false_iff.2 fun h => by have g0 := HX.out.closed 15 _ 9 rfl h (by kernel_rfl); have g1 := HX.out.closed 9 _ 6 rfl g0 (by kernel_rfl); rw [HL.out] at g1; cases g1
                have hrow := HC.out.2
                rw [hn] at hrow
                have hcl : w'.cell? ⟨w.heap.size, 0, none⟩ = some (.int .u32 nx) := by rw [cell_of_row _ _ _ _ _ _ hrow]; rfl
                have HCL := Lib.hid hcl
                clear hrow hn
                unfold Run
                simp [execOp, Upon, go_sem, *]
                exact HK.out _ _ (.inl ⟨Below.refl _ _, by decide⟩) rfl
              · intro Ld ev w' hC hL hx K hK
                have e16 : ev (.tmp 16) = _ := hx.base 16 (by kernel_rfl)
                have HK := Lib.hid hK
                have HC := Lib.hid hC
                have HL := Lib.hid hL
                have HX := Lib.hid hx
                have hc := hx.cst
                skip
                clear hx hK hC hL
                unfold Run
                simp [execOp, Upon, go_sem, *]
                exact HK.out _ _ (.inl ⟨Below.refl _ _, by decide⟩) rfl
              · intro Ld ev w' hC hL hx K hK
                have e140 := hx.held 7 _ rfl (by kernel_rfl)
                change ev (.tmp 140) = _ at e140
                have HK := Lib.hid hK
                have HC := Lib.hid hC
                have HL := Lib.hid hL
                have HX := Lib.hid hx
                have hc := hx.cst
                skip
                clear hx hK hC hL
                unfold Run
                simp [Upon, go_sem, *]
                exact HK.out _ _ (.inl ⟨Below.refl _ _, by decide⟩) rfl
              · intro Ld ev w' hC hL hx K hK
                have e139 := hx.held 6 _ rfl (by kernel_rfl)
                have e141 := hx.held 8 _ rfl (by kernel_rfl)
                change ev (.tmp 139) = _ at e139
                change ev (.tmp 141) = _ at e141
                have HK := Lib.hid hK
                have HC := Lib.hid hC
                have HL := Lib.hid hL
                have HX := Lib.hid hx
                have hc := hx.cst
                have hf := hx.fn
                clear hx hK hC hL
                have HAD := Lib.hid (sqrefadd_any nx k w' (by omega) (by omega) (by omega) (by omega))
                unfold Run
                simp [execOp, Upon, go_sem, *]
                refine HAD.out.mono ?_
                rintro e9 w9 ⟨rfl, rfl⟩
                exact ⟨_, rfl, HK.out _ _ (.inl ⟨Below.refl _ _, by decide⟩) rfl⟩
              · intro Ld ev w' hC hL hx K hK
                have e4 : ev (.tmp 4) = _ := hx.base 4 (by kernel_rfl)
                have HK := Lib.hid hK
                have HC := Lib.hid hC
                have HL := Lib.hid hL
                have HX := Lib.hid hx
                have hc := hx.cst
                skip
                clear hx hK hC hL
                unfold Run
                simp [execOp, Upon, go_sem, *]
                exact HK.out _ _ (.inl ⟨Below.refl _ _, by decide⟩) rfl
              · intro Ld ev w' hC hL hx K hK
                have e133 := hx.held 0 _ rfl (by kernel_rfl)
                have e143 := hx.held 10 _ rfl (by kernel_rfl)
                change ev (.tmp 133) = _ at e133
                change ev (.tmp 143) = _ at e143
                have HK := Lib.hid hK
                have HC := Lib.hid hC
                have HL := Lib.hid hL
                have HX := Lib.hid hx
                have hc := hx.cst
                skip
                clear hx hK hC hL
                have hrow := HC.out.2
                have hl11 := HL.out
                rw [hl11] at hrow
                have q133 : ev (.tmp 133) = .slice A9 256 c9 := e133
                have q143 : ev (.tmp 143) = .pointer (some ⟨w.heap.size, 2, none⟩) := e143
                have hst := store_cell (P := Try.prog) (v := .slice A9 256 c9) hrow (show 2 < _ by simp) rfl
                have HRW := Lib.hid hrow
                have HST := Lib.hid (heap_setCell_same _ w.heap.size 2 _ _ (.slice A9 256 c9) hrow)
                clear hrow
                unfold Run
                rw [run_storeC _ _ _ rfl q143 q133 rfl (by kernel_rfl) hst]
                refine HK.out _ _ (.inr ⟨⟨grown_cellR HC.out.1 _ _, ?_⟩, fun j hj hlj u hr => rl_sg (S := fun _ _ => True) (ex := []) 0 (by exact ⟨.inr (is_sg _ _), .inr (is_sg _ _), .inr (is_sg _ _), .inr (is_sg _ _), .inr (is_sg _ _), .inr (is_sg _ _), .inr (is_sg _ _), .inr (is_sg _ _), .inr (is_sg _ _), .inr (is_sg _ _), .inr (is_sg _ _), .inr (any_sg _), .inr (is_sg _ _), .inr (any_sg _), .inr (is_sg _ _), .inr (any_sg _), trivial⟩) j u _ _ rfl trivial hr⟩) trivial
                have := HST.out
                simpa [upd, hl11] using this
              · intro Ld ev w' hC hL hx K hK
                have e4 : ev (.tmp 4) = _ := hx.base 4 (by kernel_rfl)
                have HK := Lib.hid hK
                have HC := Lib.hid hC
                have HL := Lib.hid hL
                have HX := Lib.hid hx
                have hc := hx.cst
                skip
                clear hx hK hC hL
                unfold Run
                simp [execOp, Upon, go_sem, *]
                exact HK.out _ _ (.inl ⟨Below.refl _ _, by decide⟩) rfl
              · intro Ld ev w' hC hL hx K hK
                have e137 := hx.held 4 _ rfl (by kernel_rfl)
                have e144 := hx.held 12 _ rfl (by kernel_rfl)
                change ev (.tmp 137) = _ at e137
                change ev (.tmp 144) = _ at e144
                have HK := Lib.hid hK
                have HC := Lib.hid hC
                have HL := Lib.hid hL
                have HX := Lib.hid hx
                have hc := hx.cst
                skip
                clear hx hK hC hL
                have hrow := HC.out.2
                have hl13 := HL.out
                rw [hl13] at hrow
                have q137 : ev (.tmp 137) = .string (TX ++ TF) := e137
                have q144 : ev (.tmp 144) = .pointer (some ⟨w.heap.size, 1, none⟩) := e144
                have hst := store_cell (P := Try.prog) (v := .string (TX ++ TF)) hrow (show 1 < _ by simp) rfl
                have HRW := Lib.hid hrow
                have HST := Lib.hid (heap_setCell_same _ w.heap.size 1 _ _ (.string (TX ++ TF)) hrow)
                clear hrow
                unfold Run
                rw [run_storeC _ _ _ rfl q144 q137 rfl (by kernel_rfl) hst]
                refine HK.out _ _ (.inr ⟨⟨grown_cellR HC.out.1 _ _, ?_⟩, fun j hj hlj u hr => rl_sg (S := fun _ _ => True) (ex := []) 0 (by exact ⟨.inr (is_sg _ _), .inr (is_sg _ _), .inr (is_sg _ _), .inr (is_sg _ _), .inr (is_sg _ _), .inr (is_sg _ _), .inr (is_sg _ _), .inr (is_sg _ _), .inr (is_sg _ _), .inr (is_sg _ _), .inr (is_sg _ _), .inr (any_sg _), .inr (is_sg _ _), .inr (any_sg _), .inr (is_sg _ _), .inr (any_sg _), trivial⟩) j u _ _ rfl trivial hr⟩) trivial
                have := HST.out
                simpa [upd, hl13] using this
              · intro Ld ev w' hC hL hx K hK
                have e4 : ev (.tmp 4) = _ := hx.base 4 (by kernel_rfl)
                have HK := Lib.hid hK
                have HC := Lib.hid hC
                have HL := Lib.hid hL
                have HX := Lib.hid hx
                have hc := hx.cst
                skip
                clear hx hK hC hL
                unfold Run
                simp [execOp, Upon, go_sem, *]
                exact HK.out _ _ (.inl ⟨Below.refl _ _, by decide⟩) rfl
              · intro Ld ev w' hC hL hx K hK
                have e142 := hx.held 9 _ rfl (by kernel_rfl)
                have e145 := hx.held 14 _ rfl (by kernel_rfl)
                change ev (.tmp 142) = _ at e142
                change ev (.tmp 145) = _ at e145
                have HK := Lib.hid hK
                have HC := Lib.hid hC
                have HL := Lib.hid hL
                have HX := Lib.hid hx
                have hc := hx.cst
                skip
                clear hx hK hC hL
                have hrow := HC.out.2
                have hl15 := HL.out
                rw [hl15] at hrow
                have q142 : ev (.tmp 142) = .int .u32 (addS nx k) := e142
                have q145 : ev (.tmp 145) = .pointer (some ⟨w.heap.size, 0, none⟩) := e145
                have hst := store_cell (P := Try.prog) (v := .int .u32 (addS nx k)) hrow (show 0 < _ by simp) rfl
                have HRW := Lib.hid hrow
                have HST := Lib.hid (heap_setCell_same _ w.heap.size 0 _ _ (.int .u32 (addS nx k)) hrow)
                clear hrow
                unfold Run
                rw [run_storeC _ _ _ rfl q145 q142 rfl (by kernel_rfl) hst]
                refine HK.out _ _ (.inr ⟨⟨grown_cellR HC.out.1 _ _, ?_⟩, fun j hj hlj u hr => rl_sg (S := fun _ _ => True) (ex := []) 0 (by exact ⟨.inr (is_sg _ _), .inr (is_sg _ _), .inr (is_sg _ _), .inr (is_sg _ _), .inr (is_sg _ _), .inr (is_sg _ _), .inr (is_sg _ _), .inr (is_sg _ _), .inr (is_sg _ _), .inr (is_sg _ _), .inr (is_sg _ _), .inr (any_sg _), .inr (is_sg _ _), .inr (any_sg _), .inr (is_sg _ _), .inr (any_sg _), trivial⟩) j u _ _ rfl trivial hr⟩) trivial
                have := HST.out
                simpa [upd, hl15] using this
            · exact rl_mono ⟨is_mono _, is_mono _, is_mono _, is_mono _, is_mono _, is_mono _, is_mono _, is_mono _, is_mono _, is_mono _, is_mono _, any_mono, is_mono _, any_mono, is_mono _, any_mono, trivial⟩
            · exact fun L1 L2 w1 he h => ⟨h.1, by rw [← he 11 (by simp), ← he 13 (by simp), ← he 15 (by simp)]; exact h.2⟩
            · exact fun L1 w1 w2 hb h => ⟨grown_below h.1 hb, (hb.block _ (row_lt h.2)).trans h.2⟩
            · exact ⟨World.grownBy.refl _ _, HXE.out⟩
            · simp
            intro us wr hG hH
            obtain ⟨-, -, -, -, -, -, -, -, -, -, -, -, -, -, -, -, -⟩ := hH
            simp only [fillM]
            generalize us 133 = v133
            generalize us 134 = v134
            generalize us 135 = v135
            generalize us 136 = v136
            generalize us 137 = v137
            generalize us 138 = v138
            generalize us 139 = v139
            generalize us 140 = v140
            generalize us 141 = v141
            generalize us 142 = v142
            generalize us 143 = v143
            generalize us 144 = v144
            generalize us 145 = v145
            obtain ⟨hG1, hG2⟩ := hG
            have HXF : Hid (wr.heap[w.heap.size]? = some (.cells #[.int .u32 (addS nx k), .string (TX ++ TF), .slice A9 256 c9, .int .i64 f, .bool false] 33 (0, 0))) := hG2
            have HZF : Hid (wr.heap[w.heap.size + 1]? = some (.cells Zx 33 (0, 0))) := (hG1.block _ (row_lt HZE.out) (fun e => by injection e with e; omega)).trans HZE.out
            have HBF : Hid (Below w.heap.size w wr) := HBE.out.trans (below_grown (v := .slice (some ⟨w.heap.size, 0, none⟩) 0 0) hG1 HBE.out.size (fun q hq => by have hq : some w.heap.size = some q := hq; injection hq with hq; omega))
            have HVF : Hid (Rv wr (fun b => w.heap.size + 2 ≤ b) (.slice A9 256 c9) (intsD (gl.drop k ++ (List.replicate k (-1))))) := rv_grown HVE.out hG1 (fun q hq => by injection hq with hq; omega)
            clear hG1 hG2 HXE HZE HBE HVE
            obtain ⟨c0, c1, c2', c3, c4⟩ := five_cells HXF.out
            have HTT : Hid (TX ++ TF = ⟨(dt ++ fr).toArray⟩) := by
              show _ = _
              rw [← HTX.out, ← HTF.out]
              apply ByteArray.ext
              simp
            rcases Int.lt_or_le f 0 with hf1 | hf1
            · have hf1' : ¬ 0 ≤ f := by omega
              have hYF : y.fin = f := by rw [HYE.out]; exact if_neg hf1'
              have HYF := Lib.hid hYF
              clear hYF
              have htf := HTF.out
              clear HTF
              subst htf
              go_wp2_with fail
              go_meet
              case rel =>
                refine ⟨A9, c9, ?_, ?_, HZF, HBF⟩
                · rw [HYF.out, HYE.out]
                  show _ = _
                  unfold txtV
                  rw [← HTT.out]
                  exact HXF.out
                · rw [HYE.out]
                  exact HVF.out.wide fun b h => .inr h
            · have hYF : y.fin = f - k := by rw [HYE.out]; exact if_pos hf1
              have HYF := Lib.hid hYF
              have hfz := frozen_of_row _ _ 3 _ _ HXF.out
              have HXG := Lib.hid (heap_setCell_same _ w.heap.size 3 _ _ (.int .i64 (f - k)) HXF.out)
              have HZG := Lib.hid ((heap_setCell_other _ ⟨w.heap.size, 3, none⟩ (w.heap.size + 1) (.int .i64 (f - k)) (by simp)).trans HZF.out)
              have HBG := Lib.hid (HBF.out.setCell (p := ⟨w.heap.size, 3, none⟩) (Nat.le_refl _) (.int .i64 (f - k)))
              have HVG : Hid (Rv (wr.setCell ⟨w.heap.size, 3, none⟩ (.int .i64 (f - k))) (fun b => w.heap.size + 2 ≤ b) (.slice A9 256 c9) (intsD (gl.drop k ++ (List.replicate k (-1))))) := HVF.out.setCell (by show ¬ (w.heap.size + 2 ≤ w.heap.size); omega) _
              clear hYF
              have htf := HTF.out
              clear HTF
              subst htf
              go_wp2_with fail
              go_meet
              case rel =>
                refine ⟨A9, c9, ?_, ?_, HZG, HBG⟩
                · rw [HYF.out, HYE.out]
                  show _ = _
                  unfold txtV
                  rw [← HTT.out]
                  exact HXG.out
                · rw [HYE.out]
                  exact HVG.out.wide fun b h => .inr h
        case rest =>
        obtain ⟨A9, c9, HXY, HVY, HZY, HBW⟩ := hcut
        rename World => wz
        clear HX10 HZ10 HB10 HO10 HGH HGR HB2D
        have hyd : y.done = false := by rw [HYY.out]; split <;> rfl
        have hyn : U32 y.next := by
          rw [HYY.out]
          split
          · exact ⟨addS_ge _ _, addS_le _ _⟩
          · exact ⟨hU0, hU1⟩
        clear HYY
        obtain ⟨yn, yd, yg, yf, yb⟩ := y
        dsimp only at hyd hyn HXY HVY
        subst hyd
        obtain ⟨hyn0, hyn1⟩ := hyn
        have hnG : ¬ ((S w.heap.size ∧ w.heap.size < w.heap.size) ∨ w.heap.size + 2 ≤ w.heap.size) := by omega
        have hnG1 : ¬ ((S (w.heap.size + 1) ∧ w.heap.size + 1 < w.heap.size) ∨ w.heap.size + 2 ≤ w.heap.size + 1) := by omega
        have HNG := Lib.hid hnG
        have HNG1 := Lib.hid hnG1
        clear hnG hnG1
        obtain ⟨c0, c1, c2', c3, c4⟩ := five_cells HXY.out
        by_cases hy0 : yf = 0
        · subst hy0
          have HEN : Hid (endX ⟨yn, yd, yg, 0, false⟩ = ⟨addS yn 1, yd, yg, 0, true⟩) := if_pos rfl
          have HAD := Lib.hid (sqrefadd_any yn 1 wz hyn0 hyn1 (by omega) (by omega))
          have hz4 := frozen_of_row _ _ 4 _ _ HXY.out
          have hz0 := frozen_of_row _ _ 0 _ _ HXY.out
          have h1 := heap_setCell_same _ w.heap.size 4 _ _ (.bool true) HXY.out
          have h2 := heap_setCell_same _ w.heap.size 0 _ _ (.int .u32 (addS yn 1)) h1
          have HXQ : Hid (((wz.setCell ⟨w.heap.size, 4, none⟩ (.bool true)).setCell ⟨w.heap.size, 0, none⟩ (.int .u32 (addS yn 1))).heap[w.heap.size]? = some (.cells #[.int .u32 (addS yn 1), txtV yd, .slice A9 256 c9, .int .i64 0, .bool true] 33 (0, 0))) := h2
          have HZQ := Lib.hid ((heap_setCell_other _ ⟨w.heap.size, 0, none⟩ (w.heap.size + 1) (.int .u32 (addS yn 1)) (by simp)).trans ((heap_setCell_other _ ⟨w.heap.size, 4, none⟩ (w.heap.size + 1) (.bool true) (by simp)).trans HZY.out))
          have HBQ := Lib.hid ((HBW.out.setCell (p := ⟨w.heap.size, 4, none⟩) (Nat.le_refl _) (.bool true)).setCell (p := ⟨w.heap.size, 0, none⟩) (Nat.le_refl _) (.int .u32 (addS yn 1)))
          have HVQ := Lib.hid ((HVY.out.setCell (p := ⟨w.heap.size, 4, none⟩) HNG.out (.bool true)).setCell (p := ⟨w.heap.size, 0, none⟩) HNG.out (.int .u32 (addS yn 1)))
          clear h1 h2
          unfold txtV at HXQ
          go_wp2_with fail
          refine HAD.out.mono ?_
          rintro e12 w12 ⟨rfl, rfl⟩
          go_wp2_with (first | refine wpList_load_row rfl 33 _ rfl w.heap.size rfl 33 #[.int .u32 (addS yn 1), .string ⟨yd.toArray⟩, .slice A9 256 c9, .int .i64 0, .bool true] (0, 0) _ HXQ.out Try.underlying33 rfl (by kernel_rfl) ?_ | refine wpList_store_row rfl 33 _ _ rfl (w.heap.size + 1) #[.int .u32 (addS yn 1), .string ⟨yd.toArray⟩, .slice A9 256 c9, .int .i64 0, .bool true] rfl rfl 33 Zx HZQ.out (by kernel_rfl) rfl (by simp [Value.oneCell']) ?_)
          refine ret_one (g := w.heap.size + 1) rfl rfl (setRow_heap _ _ _ _ _ _ HZQ.out) Try.underlying33 rfl (by kernel_rfl) rfl ?_
          refine ⟨_, rfl, ?_, below_setRow HBQ.out (by omega) _⟩
          rw [HACC.out, HEN.out]
          exact rx_make (x := ⟨addS yn 1, yd, yg, 0, true⟩) ((HVQ.out.setRow HNG1.out _).wide fun b h => by rcases h with h | h <;> first | exact .inl h.1 | exact .inr (by omega))
        · have HEN : Hid (endX ⟨yn, yd, yg, yf, false⟩ = ⟨yn, yd, yg, yf, false⟩) := if_neg hy0
          unfold txtV at HXY
          go_wp2_with (first | refine wpList_load_row rfl 33 _ rfl w.heap.size rfl 33 #[.int .u32 yn, .string ⟨yd.toArray⟩, .slice A9 256 c9, .int .i64 yf, .bool false] (0, 0) _ HXY.out Try.underlying33 rfl (by kernel_rfl) ?_ | refine wpList_store_row rfl 33 _ _ rfl (w.heap.size + 1) #[.int .u32 yn, .string ⟨yd.toArray⟩, .slice A9 256 c9, .int .i64 yf, .bool false] rfl rfl 33 Zx HZY.out (by kernel_rfl) rfl (by simp [Value.oneCell']) ?_)
          refine ret_one (g := w.heap.size + 1) rfl rfl (setRow_heap _ _ _ _ _ _ HZY.out) Try.underlying33 rfl (by kernel_rfl) rfl ?_
          refine ⟨_, rfl, ?_, below_setRow HBW.out (by omega) _⟩
          rw [HACC.out, HEN.out]
          exact rx_make (x := ⟨yn, yd, yg, yf, false⟩) ((HVY.out.setRow HNG1.out _).wide fun b h => by rcases h with h | h <;> first | exact .inl h.1 | exact .inr (by omega))
  · unfold txtV at HX1 HW ⊢
    go_enter Try.func15, Try.ntmps15
    go_upto_region 1 with (fail)
    change Code.wp _ _ _ _ ((w.alloc (.cells #[.int .u32 nx, .string ⟨dt.toArray⟩, .slice (some ad) 256 c2, .int .i64 fn, .bool true] 33)).alloc (.cells Zx 33))
    rw [HW.out]
    clear HW
    obtain ⟨c0, c1, c2', c3, c4⟩ := five_cells HX1.out
    go_wp2_with (first | refine wpList_load_row rfl 33 _ rfl w.heap.size rfl 33 #[.int .u32 nx, .string ⟨dt.toArray⟩, .slice (some ad) 256 c2, .int .i64 fn, .bool true] (0, 0) _ HX1.out Try.underlying33 rfl (by kernel_rfl) ?_ | refine wpList_store_row rfl 33 _ _ rfl (w.heap.size + 1) #[.int .u32 nx, .string ⟨dt.toArray⟩, .slice (some ad) 256 c2, .int .i64 fn, .bool true] rfl rfl 33 Zx HZ1.out (by kernel_rfl) rfl (by simp [Value.oneCell']) ?_)
    refine ret_one (g := w.heap.size + 1) rfl rfl (setRow_heap _ _ _ _ _ _ HZ1.out) Try.underlying33 rfl (by kernel_rfl) rfl ?_
    refine ⟨_, rfl, ?_, below_setRow HB1.out (by omega) _⟩
    rw [show acceptX ⟨nx, dt, gt, fn, true⟩ a D e = ⟨nx, dt, gt, fn, true⟩ from if_pos rfl]
    exact rx_make (x := ⟨nx, dt, gt, fn, true⟩) (((HRV.out w1 HB1.out).setRow (by omega) _).wide fun b h => .inl h.1)
end Go.Proofs.Ytdgfhcojmfgimaa
