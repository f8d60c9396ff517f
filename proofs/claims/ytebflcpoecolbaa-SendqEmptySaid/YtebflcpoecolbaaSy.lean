/-
  The law SendqEmpty: every number, every slice of acts.
-/
import Derived.Test.YtebflcpoecolbaaSm
import Derived.Test.YtebflcpoecolbaaNew
namespace Go.Proofs.Ytebflcpoecolbaa
open Go.RowKit

theorem flight_small {x : Sx} (h : OkS x) : flightS x ≤ 257 := by
  have h1 := flight_le h
  have h2 := h.sent
  have h3 := h.room
  unfold fromS at h3
  split at h1 <;> omega
theorem ack_all {x : Sx} (h : OkS x) : ackN x (addS (addS x.first x.acked) (flightS x)) = flightS x ∧ ackE x (addS (addS x.first x.acked) (flightS x)) = 0 ∧ (ackS x (addS (addS x.first x.acked) (flightS x))).acked = x.acked + flightS x := by
  have hs := flight_small h
  have hd : ackD x (addS (addS x.first x.acked) (flightS x)) = flightS x := by
    unfold ackD
    generalize (flightS x) = k at hs
    generalize addS x.first x.acked = a
    unfold diffS addS
    omega
  have hn := (ack_sent x (addS (addS x.first x.acked) (flightS x))).2.2.2.2
  have hN : ackN x (addS (addS x.first x.acked) (flightS x)) = flightS x := by
    unfold ackN ackO
    rw [hd]
    split
    · rfl
    · rename_i hh
      rw [Bool.and_eq_true] at hh
      have : ¬ (0 : Int) < (flightS x : Int) := fun h0 => hh ⟨decide_eq_true h0, decide_eq_true (Int.le_refl _)⟩
      omega
  refine ⟨hN, ?_, ?_⟩
  · unfold ackE
    rw [hd, if_neg (by omega)]
  · rw [hN] at hn
    omega
theorem next_big' {x : Sx} (h : OkS x) : nextN x 1000 64 = min (x.all.length - x.sent) 64 := by
  have h1 := h.room
  have h2 := h.from_le
  have h3 := h.sent
  unfold fromS at h1 h2
  unfold nextN
  omega
theorem left_done' {x : Sx} (h : OkS x) (hn : nextO x 1000 64 = false) : x.sent = x.all.length ∧ x.fsent = x.fin := by
  have h3 := h.sent
  unfold nextO at hn
  rw [Bool.or_eq_false_iff] at hn
  have h0 : nextN x 1000 64 = 0 := Decidable.not_not.1 (of_decide_eq_false hn.1)
  have hb := next_big' h
  rw [h0] at hb
  have hs : x.sent = x.all.length := by omega
  refine ⟨hs, ?_⟩
  have he := hn.2
  unfold nextE at he
  rw [h0, decide_eq_true (show x.sent + 0 = x.all.length by omega)] at he
  cases hf : x.fsent
  · rw [hf] at he
    simpa using he.symm
  · exact ((h.fsent hf).1).symm
theorem left_less' {x : Sx} (h : OkS x) (hn : nextO x 1000 64 = true) : leftS (nextS x 1000 64) < leftS x := by
  have hfr := next_free h hn
  have hb := next_big' h
  have h3 := h.sent
  unfold leftS
  show (x.all.length - (x.sent + nextN x 1000 64)) + (if x.fin = true ∧ (x.fsent || nextE x 1000 64) = false then 1 else 0) < _
  rw [hfr, Bool.false_or]
  unfold nextO at hn
  rw [Bool.or_eq_true] at hn
  have hp : (if x.fin = true ∧ nextE x 1000 64 = false then 1 else 0) ≤ (if x.fin = true ∧ false = false then 1 else 0 : Nat) := by
    split
    · rename_i hh
      rw [if_pos ⟨hh.1, rfl⟩]
      exact Nat.le_refl _
    · exact Nat.zero_le _
  by_cases h0 : nextN x 1000 64 = 0
  · have he : nextE x 1000 64 = true := by
      rcases hn with hn | hn
      · exact absurd h0 (of_decide_eq_true hn)
      · exact hn
    have hfin : x.fin = true := by
      unfold nextE at he
      rw [Bool.and_eq_true, Bool.and_eq_true] at he
      exact he.1.1
    rw [h0, if_neg (by rw [he]; simp), if_pos ⟨hfin, rfl⟩]
    omega
  · omega
/-- all that was sent is acknowledged, nothing ends yet -/
theorem ack_free {x y : Sx} (h : OkS x) (hf : x.fin = false) (hy : ackS x (addS (addS x.first x.acked) (flightS x)) = y) : OkS y ∧ flightS y = 0 ∧ againO y 64 = false ∧ emptyS y = decide (x.sent = x.all.length) ∧ y.all = x.all ∧ OkS (closeS y) ∧ leftS (closeS y) ≤ 257 := by
  have ho := ack_okS h (addS (addS x.first x.acked) (flightS x))
  have hs := ack_sent x (addS (addS x.first x.acked) (flightS x))
  have ha := (ack_all h).2.2
  have hsn : (ackS x (addS (addS x.first x.acked) (flightS x))).sent = x.sent := by unfold ackS; split <;> rfl
  have hfn : (ackS x (addS (addS x.first x.acked) (flightS x))).fin = x.fin := by unfold ackS; split <;> rfl
  have hfl := flight_le h
  rw [hy] at ho hs ha hsn hfn
  have hxf : x.fsent = false := by
    cases hc : x.fsent
    · rfl
    · rw [(h.fsent hc).1] at hf
      cases hf
  rw [if_neg (by rw [hxf]; decide)] at hfl
  have hyf : y.fsent = false := hs.2.2.1.trans hxf
  have hle := h.sent
  have hyr := ho.room
  unfold fromS at hyr
  rw [hs.2.1] at hyr
  have hfl2 : flightS y = 0 := by unfold flightS; rw [hyf, if_neg (by decide)]; omega
  refine ⟨ho, hfl2, ?_, ?_, hs.2.1, close_okS ho, ?_⟩
  · have hF : againF y = y.sent := by unfold againF; omega
    have hT : againT y 64 = y.sent := by unfold againT; rw [hF]; omega
    unfold againO againE
    rw [hF, hT, hyf]
    simp
  · unfold emptyS
    rw [hs.2.1, hfn, hf, Bool.not_false, Bool.true_or, Bool.and_true]
    exact decide_eq_decide.2 (by omega)
  · unfold leftS
    show (y.all.length - y.sent) + _ ≤ _
    rw [hs.2.1, hsn]
    split <;> omega
/-- all was sent, and the end: all is acknowledged -/
theorem ack_end {x y : Sx} (h : OkS x) (_hf : x.fin = true) (hs : x.sent = x.all.length) (hfs : x.fsent = true) (hy : ackS x (addS (addS x.first x.acked) (flightS x)) = y) : OkS y ∧ emptyS y = true ∧ (concS y).facked = true ∧ y.all = x.all := by
  have ho := ack_okS h (addS (addS x.first x.acked) (flightS x))
  have hk := ack_sent x (addS (addS x.first x.acked) (flightS x))
  have ha := (ack_all h).2.2
  have hfl := flight_le h
  rw [hy] at ho hk ha
  rw [if_pos hfs] at hfl
  have hlt : y.all.length < y.acked := by rw [hk.2.1]; omega
  refine ⟨ho, ?_, decide_eq_true hlt, hk.2.1⟩
  unfold emptyS
  rw [decide_eq_true hlt, decide_eq_true (Nat.le_of_lt hlt), Bool.or_true]
  rfl
set_option maxRecDepth 100000 in
set_option maxHeartbeats 40000000 in
theorem empty_any (n : Int) (v : Value) (l : List Op18) (w : World) (hn : U32 n) (hv : Rv w (Lt w.heap.size) v (rowsD 4 op18D l)) (hO : ∀ o ∈ l, ok18 o) (hl : l.length ≤ 140737488351232) :
    Calls Try.prog 7 #[.int .u32 n, v] w fun e w' => e = .returned (.bool true) ∧ Below w.heap.size w w' := by
  have HRV := Lib.hid hv
  have HNN := Lib.hid hn
  have HO := Lib.hid hO
  obtain ⟨A, c, rfl, hnc, hcm, hel⟩ := op_at hv
  have HEL := Lib.hid hel
  obtain ⟨m, hm⟩ : ∃ m, l.length = m := ⟨_, rfl⟩
  rw [hm] at HRV hnc hl ⊢
  have HM := Lib.hid hm
  have hcm2 : c ≤ 9223372036854775807 := by unfold maxLen at hcm; omega
  clear hm hcm hn hO hv hel
  go_enter Try.func7, Try.ntmps7
  go_wp2_with fail
  refine (lives18_any _).mono ?_
  rintro e w1 ⟨rfl, hb1⟩
  have HB1 := Lib.hid hb1
  have HRV1 : Hid (Rv w1 (Lt w1.heap.size) (.slice A m c) (rowsD 4 op18D l)) := (HRV.out.kept hb1 (fun _ h => h)).wide fun b hb => Nat.lt_of_lt_of_le hb hb1.size
  have HFT := Lib.hid (fits_any _ l w1 HRV1.out HO.out (by rw [HM.out]; exact hl))
  obtain ⟨ft, hft⟩ : ∃ ft, fitsX l = ft := ⟨_, rfl⟩
  have HFX := Lib.hid hft
  rw [hft] at HFT
  clear hb1 hft
  go_wp2_with fail
  refine HFT.out.mono ?_
  rintro e w2 ⟨rfl, hb2⟩
  have HB2 := Lib.hid (HB1.out.trans (hb2.mono HB1.out.size))
  clear hb2 HFT HRV1
  cases ft
  · go_wp2_with fail
    refine (lives18_any _).mono ?_
    rintro e w3 ⟨rfl, hb3⟩
    have HB3 := Lib.hid (HB2.out.trans (hb3.mono HB2.out.size))
    clear hb3
    go_wp2
    go_ret
    exact ⟨rfl, HB3.out⟩
  have h60 := (fits_iff.1 HFX.out).2
  have HF4 := Lib.hid (fits_iff.1 HFX.out).1
  rw [HM.out] at h60
  have HOK0 := Lib.hid (new_okS HNN.out)
  go_wp2_with fail
  refine (new18_any n _ HNN.out).mono ?_
  rintro e w3 ⟨cs1, rfl, hr, hb⟩
  have HLN : Hid ((newS n).all.length ≤ 400 * 0) := Nat.le_refl _
  have HFN0 : Hid ((newS n).fin = false) := rfl
  obtain ⟨X0, hX0⟩ : ∃ X0, newS n = X0 := ⟨_, rfl⟩
  rw [hX0] at hr HOK0 HLN HFN0
  obtain ⟨vD, rfl, -, h1⟩ := sq_of hr
  have HA1 := Lib.hid h1
  have F1 := Lib.hid ((Frm.start HB2.out).new hb hr)
  clear hr hb h1 hX0
  go_upto_region 4 with (first | (refine wpList_store_new rfl 28 _ _ rfl w3 #[.int .u32 0, .slice none 0 0, .int .i64 0, .bool false, .bool false, .bool false] (sqC (concS X0) vD) rfl rfl (by kernel_rfl) rfl HA1.out ?_) | go_in)
  have F3 := Lib.hid (F1.out.alloc (sqC (concS X0) vD) 28)
  obtain ⟨g1, hg1⟩ : ∃ g1, w3.heap.size = g1 := ⟨_, rfl⟩
  rw [hg1] at F3 ⊢
  change Code.wp _ _ _ _ (w3.alloc (.cells (sqC (concS X0) vD) 28))
  generalize w3.alloc (.cells (sqC (concS X0) vD) 28) = w5 at F3 ⊢
  have F6 : Hid (Frm w w5 [(g1, (sqC (concS X0) vD), 28)] [((sqC (concS X0) vD).toList, sqD (concS X0))]) := F3
  clear F1 F3 hg1 HA1 HB1 HB2
  go_wp2
  go_loopw [33] (fun t33 wr => ∃ (i : Nat) (x : Sx) (a : Value), i ≤ m ∧ t33 = .int .i64 (i : Int) ∧ Hid (OkS x) ∧ Hid (x.fin = false) ∧ Hid (x.all.length ≤ 400 * i) ∧ Hid (Frm w wr [(g1, (sqC (concS x) a), 28)] [((sqC (concS x) a).toList, sqD (concS x))])) (fun t33 _ => m - (intOf t33).toNat)
  case atStart => exact ⟨0, X0, vD, Nat.zero_le _, rfl, HOK0, HFN0, HLN, F6⟩
  case round =>
    clear F6 HOK0 HLN HFN0
    obtain ⟨i, x, vD, hi, rfl, HOX, HFN, HXL, F1⟩ := hrel
    by_cases hlt : i < m
    · obtain ⟨o, ho⟩ : ∃ o, l[i]? = some o := ⟨_, List.getElem?_eq_getElem (by rw [HM.out]; exact hlt)⟩
      have HMO := Lib.hid (List.mem_of_getElem? ho)
      obtain ⟨ad, B, eb, rfl, hrb, hcl⟩ := HEL.out i o ho
      have HOO := Lib.hid (HO.out o HMO.out)
      have hk4 := HF4.out o HMO.out
      obtain ⟨kd, D, nn, sz⟩ := o
      dsimp only at hrb hcl hk4
      obtain ⟨k, hk⟩ : ∃ k, D.length = k := ⟨_, rfl⟩
      have HDK := Lib.hid hk
      rw [hk] at hrb hcl hk4
      have HKC : Hid (∀ (j : Nat) u, (#[.int .i64 kd, .slice B k eb, .int .i64 nn, .int .i64 sz] : Array Value)[j]? = some u → wr.cell? ((ad.add (i * 4)).add j) = some u) := fun j u hj => (F1.out.below.cell (cell_lt (hcl j u hj))).trans (hcl j u hj)
      have F2 := Lib.hid (F1.out.add (us := [.slice B k eb]) (ds := [bytesD D]) (F1.out.old (rvs_cons.2 ⟨hrb, rvs_nil⟩)))
      clear ho hrb hcl hk HMO F1
      go_upto_region 7 with (first | (refine wpList_load_atA rfl 33 _ rfl (ad.add (i * 4)) rfl #[.int .i64 kd, .slice B k eb, .int .i64 nn, .int .i64 sz] _ HKC.out Try.underlying33 rfl (by kernel_rfl) ?_) | (refine wpList_store_new rfl 33 _ _ rfl wr #[.int .i64 0, .slice none 0 0, .int .i64 0, .int .i64 0] #[.int .i64 kd, .slice B k eb, .int .i64 nn, .int .i64 sz] rfl rfl (by kernel_rfl) rfl (by simp [Value.oneCell']) ?_) | go_in)
      have F3 := Lib.hid (F2.out.alloc #[.int .i64 kd, .slice B k eb, .int .i64 nn, .int .i64 sz] 33)
      obtain ⟨go, hgo⟩ : ∃ go, wr.heap.size = go := ⟨_, rfl⟩
      rw [hgo] at F3 ⊢
      change Code.wp _ _ _ _ (wr.alloc (.cells #[.int .i64 kd, .slice B k eb, .int .i64 nn, .int .i64 sz] 33))
      generalize wr.alloc (.cells #[.int .i64 kd, .slice B k eb, .int .i64 nn, .int .i64 sz] 33) = w5 at F3 ⊢
      clear HKC F2 hgo
      have hxl := HXL.out
      have HN := Lib.hid HOO.out.2.2.1
      have HSZ := Lib.hid HOO.out.2.2.2
      obtain ⟨kk, hkk, hk3⟩ := u64_rem kd 3 (by decide) (by decide)
      change (IntKind.u64.wrap kd).tmod 3 = (kk : Int) at hkk
      obtain ⟨o0, o1, o2, o3⟩ := four_at (F3.out.at (i := 0) rfl)
      obtain rfl | rfl | rfl : kk = 0 ∨ kk = 1 ∨ kk = 2 := by omega
      · have HD10 : Hid (D.length ≤ 1000) := by show _ ≤ _; rw [HDK.out]; omega
        have HCA := Lib.hid (fun w' S S2 v (hr : Rvs w' S (sqC (concS x) vD).toList (sqD (concS x))) (hv : Rv w' S2 v (bytesD D)) => write18_any x (sqC (concS x) vD) S S2 v D w' hr HOX.out hv HD10.out)
        have HOY := Lib.hid (write_okS HOX.out D)
        have HFY : Hid ((writeS x D).fin = false) := HFN.out
        have HYL : Hid ((writeS x D).all.length ≤ 400 * (i + 1)) := by
          have h2 : D.length = k := HDK.out
          show (x.all ++ D.take (writeN x D)).length ≤ _
          rw [List.length_append, List.length_take]
          omega
        generalize writeN x D = q at HCA
        obtain ⟨y, hy⟩ : ∃ y, writeS x D = y := ⟨_, rfl⟩
        rw [hy] at HCA HOY HFY HYL
        clear hy HN HSZ
        go_wp2_with (refine wpList_load_row rfl 28 _ rfl g1 rfl 28 (sqC (concS x) vD) (0, 0) _ (F3.out.at (i := 1) rfl) Try.underlying28 rfl (by kernel_rfl) ?_)
        refine (HCA.out _ _ _ _ (F3.out.val (i := 1) rfl) (rvs_cons.1 (F3.out.val (i := 0) rfl)).1).mono ?_
        rintro e w6 ⟨cs', rfl, hr, hb⟩
        obtain ⟨vE, rfl, -, h1⟩ := sq_of hr
        have H1 := Lib.hid h1
        have F4 := Lib.hid (F3.out.res hb hr)
        clear h1 hr hb F3 o0 o1 o2 o3 HCA
        have F5 : Hid (Frm w (w6.setRow g1 (sqC (concS y) vE)) [(go, #[.int .i64 kd, .slice B k eb, .int .i64 nn, .int .i64 sz], 33), (g1, (sqC (concS y) vE), 28)] [((sqC (concS y) vE).toList, sqD (concS y)), ([.slice B k eb], [bytesD D]), ((sqC (concS x) vD).toList, sqD (concS x))]) := Lib.hid (F4.out.put (i := 1) rfl _)
        have FZ : Hid (Frm w (w6.setRow g1 (sqC (concS y) vE)) [(g1, (sqC (concS y) vE), 28)] [((sqC (concS y) vE).toList, sqD (concS y))]) := Lib.hid (F5.out.drop 1 rfl (fun p hp => by simp only [List.mem_cons, List.not_mem_nil, or_false] at hp ⊢; rcases hp with rfl; simp))
        clear F5
        go_wp2_with (refine wpList_store_row rfl 28 _ _ rfl g1 (sqC (concS y) vE) rfl rfl 28 (sqC (concS x) vD) (F4.out.at (i := 1) rfl) (by kernel_rfl) rfl H1.out ?_)
        go_roundw
        case rel => exact ⟨i + 1, y, vE, by omega, by go_num, HOY, HFY, HYL, FZ⟩
        case measure => simp [intOf]; omega
      · have HCA := Lib.hid (next18_any x (sqC (concS x) vD) _ nn sz w5 (F3.out.val (i := 1) rfl) HOX.out HN.out HSZ.out)
        have HOY := Lib.hid (next_okS HOX.out nn sz)
        have HFY : Hid ((nextS x nn sz).fin = false) := HFN.out
        have HYL : Hid ((nextS x nn sz).all.length ≤ 400 * (i + 1)) := by show x.all.length ≤ _; omega
        generalize nextE x nn sz = en at HCA
        generalize nextO x nn sz = ok at HCA
        obtain ⟨y, hy⟩ : ∃ y, nextS x nn sz = y := ⟨_, rfl⟩
        rw [hy] at HCA HOY HFY HYL
        clear hy HN HSZ
        go_wp2_with (refine wpList_load_row rfl 28 _ rfl g1 rfl 28 (sqC (concS x) vD) (0, 0) _ (F3.out.at (i := 1) rfl) Try.underlying28 rfl (by kernel_rfl) ?_)
        refine HCA.out.mono ?_
        rintro e w6 ⟨cs', ps, rfl, hr, -, hb⟩
        obtain ⟨vE, rfl, -, h1⟩ := sq_of hr
        have H1 := Lib.hid h1
        have F4 := Lib.hid (F3.out.res hb hr)
        clear h1 hr hb F3 o0 o1 o2 o3 HCA
        have F5 : Hid (Frm w (w6.setRow g1 (sqC (concS y) vE)) [(go, #[.int .i64 kd, .slice B k eb, .int .i64 nn, .int .i64 sz], 33), (g1, (sqC (concS y) vE), 28)] [((sqC (concS y) vE).toList, sqD (concS y)), ([.slice B k eb], [bytesD D]), ((sqC (concS x) vD).toList, sqD (concS x))]) := Lib.hid (F4.out.put (i := 1) rfl _)
        have FZ : Hid (Frm w (w6.setRow g1 (sqC (concS y) vE)) [(g1, (sqC (concS y) vE), 28)] [((sqC (concS y) vE).toList, sqD (concS y))]) := Lib.hid (F5.out.drop 1 rfl (fun p hp => by simp only [List.mem_cons, List.not_mem_nil, or_false] at hp ⊢; rcases hp with rfl; simp))
        clear F5
        go_wp2_with (refine wpList_store_row rfl 28 _ _ rfl g1 (sqC (concS y) vE) rfl rfl 28 (sqC (concS x) vD) (F4.out.at (i := 1) rfl) (by kernel_rfl) rfl H1.out ?_)
        go_roundw
        case rel => exact ⟨i + 1, y, vE, by omega, by go_num, HOY, HFY, HYL, FZ⟩
        case measure => simp [intOf]; omega
      · have HWA : Hid (((concS x).una + nn % 4294967296) % 4294967296 = addS (addS x.first x.acked) nn) := wrap_add (concS x).una nn
        obtain ⟨AT, hAT⟩ : ∃ AT, addS (addS x.first x.acked) nn = AT := ⟨_, rfl⟩
        have HAU : Hid (U32 AT) := by rw [← hAT]; exact ⟨addS_ge _ _, addS_le _ _⟩
        rw [hAT] at HWA
        have HWB : Hid (((concS x).una + nn) % 4294967296 = AT) := by have := HWA.out; show _ = _; omega
        have HCA := Lib.hid (fun w' S (hr : Rvs w' S (sqC (concS x) vD).toList (sqD (concS x))) => ack18_any x (sqC (concS x) vD) S AT w' hr HOX.out HAU.out)
        have HOY := Lib.hid (ack_okS HOX.out AT)
        have HYX := Lib.hid (ack_sent x AT)
        have HFY : Hid ((ackS x AT).fin = false) := by show _ = _; unfold ackS; split <;> exact HFN.out
        generalize ackE x AT = ae at HCA
        obtain ⟨y, hy⟩ : ∃ y, ackS x AT = y := ⟨_, rfl⟩
        rw [hy] at HCA HOY HYX HFY
        have HYL : Hid (y.all.length ≤ 400 * (i + 1)) := by show _ ≤ _; rw [HYX.out.2.1]; omega
        clear HYX
        generalize ackN x AT = an at HCA
        clear hy hAT HN HSZ
        have q0 := sq_cells (F3.out.at (i := 1) rfl)
        go_wp2_with (refine wpList_load_row rfl 28 _ rfl g1 rfl 28 (sqC (concS x) vD) (0, 0) _ (F3.out.at (i := 1) rfl) Try.underlying28 rfl (by kernel_rfl) ?_)
        first | rw [HWB.out] | rw [HWA.out]
        refine (HCA.out _ _ (F3.out.val (i := 1) rfl)).mono ?_
        rintro e w6 ⟨cs', rfl, hr, hb⟩
        obtain ⟨vE, rfl, -, h1⟩ := sq_of hr
        have H1 := Lib.hid h1
        have F4 := Lib.hid (F3.out.res hb hr)
        clear h1 hr hb F3 HCA o0 o1 o2 o3 q0 HWA HWB
        have F5 : Hid (Frm w (w6.setRow g1 (sqC (concS y) vE)) [(go, #[.int .i64 kd, .slice B k eb, .int .i64 nn, .int .i64 sz], 33), (g1, (sqC (concS y) vE), 28)] [((sqC (concS y) vE).toList, sqD (concS y)), ([.slice B k eb], [bytesD D]), ((sqC (concS x) vD).toList, sqD (concS x))]) := Lib.hid (F4.out.put (i := 1) rfl _)
        have FZ : Hid (Frm w (w6.setRow g1 (sqC (concS y) vE)) [(g1, (sqC (concS y) vE), 28)] [((sqC (concS y) vE).toList, sqD (concS y))]) := Lib.hid (F5.out.drop 1 rfl (fun p hp => by simp only [List.mem_cons, List.not_mem_nil, or_false] at hp ⊢; rcases hp with rfl; simp))
        clear F5
        go_wp2_with (refine wpList_store_row rfl 28 _ _ rfl g1 (sqC (concS y) vE) rfl rfl 28 (sqC (concS x) vD) (F4.out.at (i := 1) rfl) (by kernel_rfl) rfl H1.out ?_)
        go_roundw
        case rel => exact ⟨i + 1, y, vE, by omega, by go_num, HOY, HFY, HYL, FZ⟩
        case measure => simp [intOf]; omega
    · obtain rfl : i = m := by omega
      rename World => w6
      have hxl := HXL.out
      have HSL : Hid (x.all.length ≤ 1000000) := by show _ ≤ _; omega
      obtain ⟨hN, hE, -⟩ := ack_all HOX.out
      obtain ⟨y, hy⟩ : ∃ y, ackS x (addS (addS x.first x.acked) (flightS x)) = y := ⟨_, rfl⟩
      obtain ⟨hoy, hfy, hay, hey, hya, hcy, hly⟩ := ack_free HOX.out HFN.out hy
      have HWA : Hid (((concS x).una + (flightS x : Int) % 4294967296) % 4294967296 = addS (addS x.first x.acked) (flightS x)) := wrap_add (concS x).una _
      have HAU : Hid (U32 (addS (addS x.first x.acked) (flightS x))) := ⟨addS_ge _ _, addS_le _ _⟩
      have HCA := Lib.hid (fun w' cs S (hr : Rvs w' S cs.toList (sqD (concS x))) => ack18_any x cs S (addS (addS x.first x.acked) (flightS x)) w' hr HOX.out HAU.out)
      rw [hN, hE, hy] at HCA
      have HFL := Lib.hid (fun w' cs S (hr : Rvs w' S cs.toList (sqD (concS x))) => flight18_any x cs S w' hr HOX.out)
      have hfs := flight_small HOX.out
      obtain ⟨AT, hAT⟩ : ∃ AT, addS (addS x.first x.acked) (flightS x) = AT := ⟨_, rfl⟩
      rw [hAT] at HWA HAU HCA
      obtain ⟨fl, hfl⟩ : ∃ fl, flightS x = fl := ⟨_, rfl⟩
      rw [hfl] at HWA HCA HFL hfs
      have HWB : Hid (((concS x).una + (fl : Int)) % 4294967296 = AT) := by have := HWA.out; show _ = _; omega
      have HWC : Hid (IntKind.u32.wrap ((concS x).una + IntKind.u32.wrap (fl : Int)) = AT) := by show _ = _; rw [IntKind.wrap_u32, IntKind.wrap_u32]; exact HWA.out
      have HOY := Lib.hid hoy
      have HFY := Lib.hid hfy
      have HAY := Lib.hid hay
      have HEY := Lib.hid hey
      have HYA := Lib.hid hya
      have HCY := Lib.hid hcy
      have HLY := Lib.hid hly
      clear hN hE hy hoy hfy hay hey hya hcy hly hAT hfl
      obtain ⟨AD, cD, eD⟩ : ∃ A9 c9, vD = .slice A9 (concS x).data.length c9 := by
        obtain ⟨v1, e, hr1, -⟩ := sq_of (F1.out.val (i := 0) rfl)
        have e2 : v1 = vD := by
          injection e with e
          injection e with _ e
          injection e with e _
          exact e.symm
        subst e2
        obtain ⟨A1, c1, e3, -⟩ := rv_bytes.1 hr1
        exact ⟨A1, c1, e3⟩
      obtain ⟨nD, hnD⟩ : ∃ nD, (concS x).data.length = nD := ⟨_, rfl⟩
      rw [hnD] at eD
      subst eD
      have HND : Hid (nD = x.all.length - fromS x) := by show _ = _; rw [← hnD]; show (x.all.drop (fromS x)).length = _; rw [List.length_drop]
      clear hnD
      have HG1 := Lib.hid (F1.out.at (i := 0) rfl)
      have HUN : Hid ((concS x).una = addS x.first x.acked) := rfl
      have HBIG : Hid (∀ b, w6.heap.size ≤ b → (Nv [g1]) b) := fun b hb hm => by
        have := F1.out.lt b hm
        omega
      have HRI : Hid (Rvs w6 (fun b => (Nv [g1]) b ∧ b < w6.heap.size) (sqC (concS x) (.slice AD nD cD)).toList (sqD (concS x))) := rvs_tight' (F1.out.val (i := 0) rfl)
      go_upto_region 14 with (fail)
      apply wp_region_relyV [7, 8, 9, 12, 13] [84, 76, 85, 8] (NewC w6 (Nv [g1]) 7 8 9 12 13 84 76 85 8 28 #[.int .u32 0, .slice none 0 0, .int .i64 0, .bool false, .bool false, .bool false] (sqD (concS y)) #[.int .i64 (fl : Int), .int .i64 0]) (RL [Is (.agg (sqC (concS x) (.slice AD nD cD))), Is _, Is (.int .u32 (concS x).una), Is (.agg (sqC (concS x) (.slice AD nD cD))), Is (.int .i64 (fl : Int)), Is _, Is (.int .u32 AT), Any, Any, Any, Is (.int .i64 (fl : Int)), Is (.int .i64 0), Any, Any, Is (.int .i64 (fl : Int)), Is (.int .i64 0)]) [false, false, false, false, false, false, false, false, true, true, true, false, false, false, false, false, false, false, false, false, false, false, false, false, false, false, false, false, false, false, false, false, false, false, false, false, false, false, false, false, false, false, false, false, false, false, false, false, false, false, false, false, false, false, false, false, false, false, false, false, false, false, false, false, false, false, false, false, false, false, false, false, false, false, false, false, true, true, true, true, true, true, true, true, true, true, true, true, false, false, false, false, false, false, false, false, false, false, false, false, false, false, false, false, false, false, false, false, false, false, false, false, false, false, false, false, false, false, false, false, false, false, false, false, false, false, false, false, false, false, false, false, false, false, false, false, false, false, false, false, false, false, false, false, false, false, false, false, false, false, false, false, false, false, false, false, false, false, false, false, false, false]
      · kernel_rfl
      · kernel_rfl
      · kernel_rfl
      · refine ⟨?_, ?_, ?_, ?_, ?_, ?_, ?_, ?_, ?_, ?_, ?_, ?_, ?_, ?_, ?_, ?_, trivial⟩
        · intro L us ev w' hus hC hL hx hnd K hK
          have e5 : ev (.tmp 5) = _ := hx.base 5 (by kernel_rfl)
          have HK := Lib.hid hK
          have HC := Lib.hid hC
          have HL := Lib.hid hL
          have HX := Lib.hid hx
          have HUS := Lib.hid hus
          have HND := Lib.hid hnd
          have hc := hx.cst
          skip
          clear hx hK hC hL hus hnd
          have q1 : ev (.tmp 5) = .pointer (some ⟨g1, 0, none⟩) := e5
          have hld := run_loadVar_row (P := Try.prog) w' g1 28 28 (sqC (concS x) (.slice AD nD cD)) (0, 0) _ ((HC.out.below.block _ (row_lt HG1.out)).trans HG1.out) Try.underlying28 rfl (by kernel_rfl)
          unfold Run
          rw [rely_load 28 _ rfl q1 hld]
          exact HK.out _ _ (.inl ⟨Below.refl _ _, by decide⟩) rfl
        · intro L us ev w' hus hC hL hx hnd K hK
          have e5 : ev (.tmp 5) = _ := hx.base 5 (by kernel_rfl)
          have HK := Lib.hid hK
          have HC := Lib.hid hC
          have HL := Lib.hid hL
          have HX := Lib.hid hx
          have HUS := Lib.hid hus
          have HND := Lib.hid hnd
          have hc := hx.cst
          skip
          clear hx hK hC hL hus hnd
          unfold Run
          simp [execOp, Upon, go_sem, *]
          exact HK.out _ _ (.inl ⟨Below.refl _ _, by decide⟩) rfl
        · intro L us ev w' hus hC hL hx hnd K hK
          have e78 := hx.held 1 _ rfl (by kernel_rfl)
          change ev (.tmp 78) = _ at e78
          have HK := Lib.hid hK
          have HC := Lib.hid hC
          have HL := Lib.hid hL
          have HX := Lib.hid hx
          have HUS := Lib.hid hus
          have HND := Lib.hid hnd
          have hc := hx.cst
          skip
          clear hx hK hC hL hus hnd
          have q1 : ev (.tmp 78) = .pointer (some ⟨g1, 0, none⟩) := e78
          have hld := run_loadVar_cell (P := Try.prog) w' ⟨g1, 0, none⟩ 22 (.int .u32 (concS x).una) _ ((cell_of_row _ _ _ _ _ _ ((HC.out.below.block _ (row_lt HG1.out)).trans HG1.out)).trans rfl) Try.underlying22 rfl
          unfold Run
          rw [rely_load 22 _ rfl q1 hld]
          exact HK.out _ _ (.inl ⟨Below.refl _ _, by decide⟩) rfl
        · intro L us ev w' hus hC hL hx hnd K hK
          have e5 : ev (.tmp 5) = _ := hx.base 5 (by kernel_rfl)
          have HK := Lib.hid hK
          have HC := Lib.hid hC
          have HL := Lib.hid hL
          have HX := Lib.hid hx
          have HUS := Lib.hid hus
          have HND := Lib.hid hnd
          have hc := hx.cst
          skip
          clear hx hK hC hL hus hnd
          have q1 : ev (.tmp 5) = .pointer (some ⟨g1, 0, none⟩) := e5
          have hld := run_loadVar_row (P := Try.prog) w' g1 28 28 (sqC (concS x) (.slice AD nD cD)) (0, 0) _ ((HC.out.below.block _ (row_lt HG1.out)).trans HG1.out) Try.underlying28 rfl (by kernel_rfl)
          unfold Run
          rw [rely_load 28 _ rfl q1 hld]
          exact HK.out _ _ (.inl ⟨Below.refl _ _, by decide⟩) rfl
        · intro L us ev w' hus hC hL hx hnd K hK
          have e80 := hx.held 3 _ rfl (by kernel_rfl)
          change ev (.tmp 80) = _ at e80
          have HK := Lib.hid hK
          have HC := Lib.hid hC
          have HL := Lib.hid hL
          have HX := Lib.hid hx
          have HUS := Lib.hid hus
          have HND := Lib.hid hnd
          have hc := hx.cst
          have hf := hx.fn
          clear hx hK hC hL hus hnd
          unfold Run
          simp [execOp, Upon, go_sem, *]
          refine (HFL.out w' _ _ (HRI.out.kept HC.out.below (fun _ h => h.2))).mono ?_
          rintro e w2 ⟨rfl, hb⟩
          exact ⟨_, rfl, HK.out _ _ (.inl ⟨hb, by decide⟩) rfl⟩
        · intro L us ev w' hus hC hL hx hnd K hK
          have e81 := hx.held 4 _ rfl (by kernel_rfl)
          change ev (.tmp 81) = _ at e81
          have HK := Lib.hid hK
          have HC := Lib.hid hC
          have HL := Lib.hid hL
          have HX := Lib.hid hx
          have HUS := Lib.hid hus
          have HND := Lib.hid hnd
          have hc := hx.cst
          skip
          clear hx hK hC hL hus hnd
          unfold Run
          simp [execOp, Upon, go_sem, *]
          exact HK.out _ _ (.inl ⟨Below.refl _ _, by decide⟩) rfl
        · intro L us ev w' hus hC hL hx hnd K hK
          have e79 := hx.held 2 _ rfl (by kernel_rfl)
          have e82 := hx.held 5 _ rfl (by kernel_rfl)
          change ev (.tmp 79) = _ at e79
          change ev (.tmp 82) = _ at e82
          have HK := Lib.hid hK
          have HC := Lib.hid hC
          have HL := Lib.hid hL
          have HX := Lib.hid hx
          have HUS := Lib.hid hus
          have HND := Lib.hid hnd
          have hc := hx.cst
          skip
          clear hx hK hC hL hus hnd
          have hwc := HWC.out
          unfold Run
          simp [execOp, Upon, go_sem, *]
          exact HK.out _ _ (.inl ⟨Below.refl _ _, by decide⟩) rfl
        · intro L us ev w' hus hC hL hx hnd K hK
          have e77 := hx.held 0 _ rfl (by kernel_rfl)
          have e83 := hx.held 6 _ rfl (by kernel_rfl)
          change ev (.tmp 77) = _ at e77
          change ev (.tmp 83) = _ at e83
          have HK := Lib.hid hK
          have HC := Lib.hid hC
          have HL := Lib.hid hL
          have HX := Lib.hid hx
          have HUS := Lib.hid hus
          have HND := Lib.hid hnd
          have hc := hx.cst
          have hf := hx.fn
          clear hx hK hC hL hus hnd
          unfold Run
          simp [execOp, Upon, go_sem, *]
          refine (HCA.out w' _ _ (HRI.out.kept HC.out.below (fun _ h => h.2))).mono ?_
          rintro e w2 ⟨cs', rfl, hr, hb⟩
          exact ⟨_, rfl, HK.out _ _ (.inr ⟨HC.out.called HL.out HBIG.out hb (hr.wide fun b hb2 => by
            rcases hb2 with hb2 | hb2
            · exact .inl ((fun b hb => hb) b hb2)
            · exact .inr hb2) (by decide) (by decide) (by decide) (by decide) (by decide), fun j hj hlj u hr => rl_mono (Rs := [Is (.agg (sqC (concS x) (.slice AD nD cD))), Is _, Is (.int .u32 (concS x).una), Is (.agg (sqC (concS x) (.slice AD nD cD))), Is (.int .i64 (fl : Int)), Is _, Is (.int .u32 AT), Any, Any, Any, Is (.int .i64 (fl : Int)), Is (.int .i64 0), Any, Any, Is (.int .i64 (fl : Int)), Is (.int .i64 0)]) ⟨is_mono _, is_mono _, is_mono _, is_mono _, is_mono _, is_mono _, is_mono _, any_mono, any_mono, any_mono, is_mono _, is_mono _, any_mono, any_mono, is_mono _, is_mono _, trivial⟩ j u _ _ (hb) hr⟩) trivial⟩
        · intro L us ev w' hus hC hL hx hnd K hK
          have e84 := hx.held 7 _ rfl (by kernel_rfl)
          change (Any : Pred) (ev (.tmp 84)) w' at e84
          have HK := Lib.hid hK
          have HC := Lib.hid hC
          have HL := Lib.hid hL
          have HX := Lib.hid hx
          have HUS := Lib.hid hus
          have HND := Lib.hid hnd
          have hc := hx.cst
          skip
          clear hx hK hC hL hus hnd
          have hc9 : L 7 = true := HND.out 7 (by kernel_rfl)
          have q1 : ev (.tmp 84) = us 84 := HUS.out 84
          unfold Run
          simp [execOp, Upon, go_sem]
          rw [q1]
          exact HK.out _ _ (.inr ⟨HC.out.moved HL.out hc9 (by decide) (by decide) (by decide) (by decide) (by decide) (by decide), fun j hj hlj u hr => rl_mono (Rs := [Is (.agg (sqC (concS x) (.slice AD nD cD))), Is _, Is (.int .u32 (concS x).una), Is (.agg (sqC (concS x) (.slice AD nD cD))), Is (.int .i64 (fl : Int)), Is _, Is (.int .u32 AT), Any, Any, Any, Is (.int .i64 (fl : Int)), Is (.int .i64 0), Any, Any, Is (.int .i64 (fl : Int)), Is (.int .i64 0)]) ⟨is_mono _, is_mono _, is_mono _, is_mono _, is_mono _, is_mono _, is_mono _, any_mono, any_mono, any_mono, is_mono _, is_mono _, any_mono, any_mono, is_mono _, is_mono _, trivial⟩ j u _ _ (Below.refl _ _) hr⟩) trivial
        · intro L us ev w' hus hC hL hx hnd K hK
          have e76 := hx.held 8 _ rfl (by kernel_rfl)
          change (Any : Pred) (ev (.tmp 76)) w' at e76
          have HK := Lib.hid hK
          have HC := Lib.hid hC
          have HL := Lib.hid hL
          have HX := Lib.hid hx
          have HUS := Lib.hid hus
          have HND := Lib.hid hnd
          have hc := hx.cst
          skip
          clear hx hK hC hL hus hnd
          have hm9 : L 8 = true := HND.out 8 (by kernel_rfl)
          obtain ⟨hc9, hm8⟩ := HC.out.move hm9
          obtain ⟨C9, hC9, -⟩ := HC.out.call hc9
          have q1 : ev (.tmp 76) = .tuple (#[.agg C9] ++ #[.int .i64 (fl : Int), .int .i64 0]) := (HUS.out 76).trans (hm8.trans hC9)
          unfold Run
          simp [execOp, Upon, go_sem, q1]
          exact HK.out _ _ (.inr ⟨HC.out.taken hm9 hC9 (by decide) (by decide) (by decide) (by decide) (by decide) (by decide) (by decide), fun j hj hlj u hr => rl_mono (Rs := [Is (.agg (sqC (concS x) (.slice AD nD cD))), Is _, Is (.int .u32 (concS x).una), Is (.agg (sqC (concS x) (.slice AD nD cD))), Is (.int .i64 (fl : Int)), Is _, Is (.int .u32 AT), Any, Any, Any, Is (.int .i64 (fl : Int)), Is (.int .i64 0), Any, Any, Is (.int .i64 (fl : Int)), Is (.int .i64 0)]) ⟨is_mono _, is_mono _, is_mono _, is_mono _, is_mono _, is_mono _, is_mono _, any_mono, any_mono, any_mono, is_mono _, is_mono _, any_mono, any_mono, is_mono _, is_mono _, trivial⟩ j u _ _ (Below.refl _ _) hr⟩) trivial
        · intro L us ev w' hus hC hL hx hnd K hK
          have e76 := hx.held 8 _ rfl (by kernel_rfl)
          change (Any : Pred) (ev (.tmp 76)) w' at e76
          have HK := Lib.hid hK
          have HC := Lib.hid hC
          have HL := Lib.hid hL
          have HX := Lib.hid hx
          have HUS := Lib.hid hus
          have HND := Lib.hid hnd
          have hc := hx.cst
          skip
          clear hx hK hC hL hus hnd
          have hm9 : L 8 = true := HND.out 8 (by kernel_rfl)
          obtain ⟨hc9, hm8⟩ := HC.out.move hm9
          obtain ⟨C9, hC9, -⟩ := HC.out.call hc9
          have q1 : ev (.tmp 76) = .tuple (#[.agg C9] ++ #[.int .i64 (fl : Int), .int .i64 0]) := (HUS.out 76).trans (hm8.trans hC9)
          unfold Run
          simp [execOp, Upon, go_sem, q1]
          exact HK.out _ _ (.inl ⟨Below.refl _ _, by decide⟩) rfl
        · intro L us ev w' hus hC hL hx hnd K hK
          have e76 := hx.held 8 _ rfl (by kernel_rfl)
          change (Any : Pred) (ev (.tmp 76)) w' at e76
          have HK := Lib.hid hK
          have HC := Lib.hid hC
          have HL := Lib.hid hL
          have HX := Lib.hid hx
          have HUS := Lib.hid hus
          have HND := Lib.hid hnd
          have hc := hx.cst
          skip
          clear hx hK hC hL hus hnd
          have hm9 : L 8 = true := HND.out 8 (by kernel_rfl)
          obtain ⟨hc9, hm8⟩ := HC.out.move hm9
          obtain ⟨C9, hC9, -⟩ := HC.out.call hc9
          have q1 : ev (.tmp 76) = .tuple (#[.agg C9] ++ #[.int .i64 (fl : Int), .int .i64 0]) := (HUS.out 76).trans (hm8.trans hC9)
          unfold Run
          simp [execOp, Upon, go_sem, q1]
          exact HK.out _ _ (.inl ⟨Below.refl _ _, by decide⟩) rfl
        · intro L us ev w' hus hC hL hx hnd K hK
          have HK := Lib.hid hK
          have HC := Lib.hid hC
          have HL := Lib.hid hL
          have HX := Lib.hid hx
          have HUS := Lib.hid hus
          have HND := Lib.hid hnd
          have hc := hx.cst
          skip
          clear hx hK hC hL hus hnd
          have nst : L 13 = false := Bool.eq_false_iff.2 fun h => by have h9 := HX.out.closed 13 _ 12 rfl h (by kernel_rfl); rw [HL.out] at h9; cases h9
          unfold Run
          simp [execOp, Upon, go_sem]
          exact HK.out _ _ (.inr ⟨HC.out.made HL.out nst (by decide) (by decide) (by decide) (by decide) (by decide) (by decide) (by decide), fun j hj hlj u hr => rl_mono (Rs := [Is (.agg (sqC (concS x) (.slice AD nD cD))), Is _, Is (.int .u32 (concS x).una), Is (.agg (sqC (concS x) (.slice AD nD cD))), Is (.int .i64 (fl : Int)), Is _, Is (.int .u32 AT), Any, Any, Any, Is (.int .i64 (fl : Int)), Is (.int .i64 0), Any, Any, Is (.int .i64 (fl : Int)), Is (.int .i64 0)]) ⟨is_mono _, is_mono _, is_mono _, is_mono _, is_mono _, is_mono _, is_mono _, any_mono, any_mono, any_mono, is_mono _, is_mono _, any_mono, any_mono, is_mono _, is_mono _, trivial⟩ j u _ _ ((Below.refl _ _).alloc (Nat.le_refl _) _) hr⟩) trivial
        · intro L us ev w' hus hC hL hx hnd K hK
          have e8 := hx.held 12 _ rfl (by kernel_rfl)
          have e85 := hx.held 9 _ rfl (by kernel_rfl)
          change (Any : Pred) (ev (.tmp 8)) w' at e8
          change (Any : Pred) (ev (.tmp 85)) w' at e85
          have HK := Lib.hid hK
          have HC := Lib.hid hC
          have HL := Lib.hid hL
          have HX := Lib.hid hx
          have HUS := Lib.hid hus
          have HND := Lib.hid hnd
          have hc := hx.cst
          skip
          clear hx hK hC hL hus hnd
          have ha9 : L 12 = true := HND.out 12 (by kernel_rfl)
          have he9 : L 9 = true := HND.out 9 (by kernel_rfl)
          obtain ⟨g9, C9, hg9, hC9, hs9, h19, hh9, -, hn9⟩ := HC.out.laid (v := undef) HL.out ha9 he9 (by rfl) (by decide) (by decide) (by decide) (by decide)
          have qp : ev (.tmp 8) = .pointer (some ⟨g9, 0, none⟩) := (HUS.out 8).trans hg9
          have qv : ev (.tmp 85) = .agg C9 := (HUS.out 85).trans hC9
          have hst := run_storeVar_row (P := Try.prog) w' g9 28 28 #[.int .u32 0, .slice none 0 0, .int .i64 0, .bool false, .bool false, .bool false] C9 hh9 (by rw [hs9]; kernel_rfl) hs9.symm h19
          unfold Run
          rw [rely_store 28 _ _ rfl qp qv hst]
          refine HK.out _ _ (.inr ⟨hn9, fun j hj hlj u hr => ?_⟩) trivial
          rcases j with _ | _ | _ | _ | _ | _ | _ | _ | _ | _ | _ | _ | _ | _ | _ | _ | j
          · exact hr
          · exact hr
          · exact hr
          · exact hr
          · exact hr
          · exact hr
          · exact hr
          · exact trivial
          · exact trivial
          · exact trivial
          · exact hr
          · exact hr
          · exact trivial
          · exact absurd rfl hj
          · exact hr
          · exact hr
          · exact trivial
        · intro L us ev w' hus hC hL hx hnd K hK
          have e86 := hx.held 10 _ rfl (by kernel_rfl)
          change ev (.tmp 86) = _ at e86
          have HK := Lib.hid hK
          have HC := Lib.hid hC
          have HL := Lib.hid hL
          have HX := Lib.hid hx
          have HUS := Lib.hid hus
          have HND := Lib.hid hnd
          have hc := hx.cst
          skip
          clear hx hK hC hL hus hnd
          unfold Run
          simp [execOp, Upon, go_sem, *]
          exact HK.out _ _ (.inl ⟨Below.refl _ _, by decide⟩) rfl
        · intro L us ev w' hus hC hL hx hnd K hK
          have e87 := hx.held 11 _ rfl (by kernel_rfl)
          change ev (.tmp 87) = _ at e87
          have HK := Lib.hid hK
          have HC := Lib.hid hC
          have HL := Lib.hid hL
          have HX := Lib.hid hx
          have HUS := Lib.hid hus
          have HND := Lib.hid hnd
          have hc := hx.cst
          skip
          clear hx hK hC hL hus hnd
          unfold Run
          simp [execOp, Upon, go_sem, *]
          exact HK.out _ _ (.inl ⟨Below.refl _ _, by decide⟩) rfl
      · exact rl_mono ⟨is_mono _, is_mono _, is_mono _, is_mono _, is_mono _, is_mono _, is_mono _, any_mono, any_mono, any_mono, is_mono _, is_mono _, any_mono, any_mono, is_mono _, is_mono _, trivial⟩
      · exact fun L L' us us' w' h1 h2 hg => hg.agree (h1 7 (by simp)) (h1 8 (by simp)) (h1 9 (by simp)) (h1 12 (by simp)) (h1 13 (by simp)) (h2 84 (by simp)) (h2 76 (by simp)) (h2 85 (by simp)) (h2 8 (by simp))
      · exact fun L us w' w'' hb hg => hg.under hb
      · kernel_rfl
      · exact NewC.start
      · simp
      intro us wr hG hH
      obtain ⟨-, -, -, -, -, -, h6, -, -, -, -, -, -, -, h14, h15, -⟩ := hH
      simp only [fillM]
      obtain ⟨hB9, gn, C9, hgn, hcn, hmn, hen, hgb, E, hvn, hse, hrn⟩ := NewC.done hG
      rw [hgn]
      have HVN := Lib.hid hvn
      have HSE := Lib.hid hse
      have HRN := Lib.hid hrn
      have HGB := Lib.hid hgb
      have HB9 := Lib.hid hB9
      clear hB9 hvn hse hrn hgb hcn hmn hen hG
      change us 83 = _ at h6
      rw [h6]
      clear h6
      change us 9 = _ at h14
      rw [h14]
      clear h14
      change us 10 = _ at h15
      rw [h15]
      clear h15
      generalize us 77 = v77
      generalize us 78 = v78
      generalize us 79 = v79
      generalize us 80 = v80
      generalize us 81 = v81
      generalize us 82 = v82
      generalize us 84 = v84
      generalize us 76 = v76
      generalize us 85 = v85
      generalize us 86 = v86
      generalize us 87 = v87
      clear hgn
      rename World => w7
      obtain ⟨vE, rfl, -, h1⟩ := sq_of HRN.out
      have H1 := Lib.hid h1
      have F2 : Hid (Frm w w7 [(gn, (sqC (concS y) vE), 28), (g1, (sqC (concS x) (.slice AD nD cD)), 28)] [((sqC (concS y) vE).toList, sqD (concS y)), ((sqC (concS x) (.slice AD nD cD)).toList, sqD (concS x))]) := Lib.hid ((F1.out.have' HB9.out HGB.out HVN.out).add (HRN.out.wide fun b hb hm => by
        have h2 : b ∉ [g1] := hb.1
        have h3 : b ≠ gn := hb.2
        simp only [List.map_cons, List.map_nil, List.mem_cons, List.not_mem_nil, or_false] at hm h2
        rcases hm with hm | hm
        · exact h3 hm
        · exact h2 hm))
      clear F1 HB9 HGB HVN HRN HSE h1 HRI HBIG HG1 HCA HWA HWB HAU
      obtain ⟨AE, cE, eE⟩ : ∃ A9 c9, vE = .slice A9 (concS y).data.length c9 := by
        obtain ⟨v1, e, hr1, -⟩ := sq_of (F2.out.val (i := 0) rfl)
        have e2 : v1 = vE := by
          injection e with e
          injection e with _ e
          injection e with e _
          exact e.symm
        subst e2
        obtain ⟨A1, c1, e3, -⟩ := rv_bytes.1 hr1
        exact ⟨A1, c1, e3⟩
      obtain ⟨nE, hnE⟩ : ∃ nE, (concS y).data.length = nE := ⟨_, rfl⟩
      rw [hnE] at eE
      subst eE
      clear hnE
      obtain ⟨pa, pl, hP, -, -⟩ := again_data HOY.out 64
      have HCG := Lib.hid (again18_any y (sqC (concS y) (.slice AE nE cE)) _ 64 w7 (F2.out.val (i := 0) rfl) HOY.out ⟨by decide, by decide⟩)
      rw [HAY.out, hP] at HCG
      generalize againE y 64 = ae at HCG
      clear hP
      go_wp2_with (refine wpList_load_row rfl 28 _ rfl gn rfl 28 (sqC (concS y) (.slice AE nE cE)) (0, 0) _ (F2.out.at (i := 0) rfl) Try.underlying28 rfl (by kernel_rfl) ?_)
      refine HCG.out.mono ?_
      rintro e w8 ⟨ps, rfl, hp, hb⟩
      obtain ⟨vP, rfl, hvP, h2⟩ := pc_of hp
      have H2 := Lib.hid h2
      have F3 := Lib.hid (F2.out.call hb)
      clear h2 hp hb hvP F2 HCG
      go_upto_region 16 with (first | (refine wpList_store_new rfl 46 _ _ rfl w8 #[.int .u32 0, .slice none 0 0] (#[.int .u32 pa, vP] : Array Value) rfl rfl (by kernel_rfl) rfl H2.out ?_) | go_in)
      have F4 := Lib.hid (F3.out.alloc (#[.int .u32 pa, vP] : Array Value) 46)
      obtain ⟨gp, hgp⟩ : ∃ g, w8.heap.size = g := ⟨_, rfl⟩
      rw [hgp] at F4 ⊢
      change Code.wp _ _ _ _ (w8.alloc (.cells (#[.int .u32 pa, vP] : Array Value) 46))
      generalize w8.alloc (.cells (#[.int .u32 pa, vP] : Array Value) 46) = w9 at F4 ⊢
      have F5 : Hid (Frm w w9 [(gn, (sqC (concS y) (.slice AE nE cE)), 28), (g1, (sqC (concS x) (.slice AD nD cD)), 28)] [((sqC (concS y) (.slice AE nE cE)).toList, sqD (concS y)), ((sqC (concS x) (.slice AD nD cD)).toList, sqD (concS x))]) := Lib.hid (F4.out.drop 1 rfl (fun _ h => h))
      clear F3 F4 hgp H2
      have HX1 := Lib.hid (F5.out.at (i := 1) rfl)
      have HX2 := Lib.hid (F5.out.at (i := 0) rfl)
      have HFX := Lib.hid (fun w' (hb : Below w9.heap.size w9 w') => HFL.out w' _ _ (rvs_call (F5.out.val (i := 1) rfl) hb))
      have HFW := Lib.hid (fun w' (hb : Below w9.heap.size w9 w') => flight18_any y _ _ w' (rvs_call (F5.out.val (i := 0) rfl) hb) HOY.out)
      rw [HFY.out] at HFW
      have HEW := Lib.hid (fun w' (hb : Below w9.heap.size w9 w') => empty18_any y _ _ w' (rvs_call (F5.out.val (i := 0) rfl) hb) HOY.out)
      rw [HEY.out] at HEW
      have C12 : Hid (∀ w', Reg w9 w' → w'.cell? ((⟨g1, 0, none⟩ : Addr).add 2) = some (.int .i64 ((x.sent - fromS x : Nat) : Int))) := Lib.hid (var_cell HX1.out 2 rfl)
      have C11 : Hid (∀ w', Reg w9 w' → w'.cell? ((⟨g1, 0, none⟩ : Addr).add 1) = some (.slice AD nD cD)) := Lib.hid (var_cell HX1.out 1 rfl)
      have hse := HOX.out.from_le
      have hsl := HOX.out.sent
      have hnd := HND.out
      have HEQ : Hid (x.sent = x.all.length ↔ ((x.sent - fromS x : Nat) : Int) = (nD : Int)) := by constructor <;> (intro h; omega)
      generalize ((x.sent - fromS x : Nat) : Int) = z2 at C12 HEQ
      obtain ⟨bb, hbb⟩ : ∃ bb, decide (x.sent = x.all.length) = bb := ⟨_, rfl⟩
      rw [hbb] at HEW
      have HBB : Hid (bb = decide (z2 = (nD : Int))) := by show _ = _; rw [← hbb]; exact decide_eq_decide.2 HEQ.out
      clear hbb HEQ hse hsl hnd
      by_cases hz2 : z2 = (nD : Int)
      · have hbt := HBB.out.trans (decide_eq_true hz2)
        subst hbt
        refine wp_region_quiet_below (by kernel_rfl) (by kernel_rfl) ?_
        (first | go_big_quiet_step (fail) | quiet_step (fail))
        (first | go_big_quiet_step (fail) | quiet_step (fail))
        (first | go_big_quiet_step (fail) | quiet_step (fail))
        (first | go_big_quiet_step (fail) | quiet_step (fail))
        (refine wpQuiet_step (fun K hK => ?_); refine quiet_load_at (by kernel_rfl) 28 _ rfl (⟨g1, 0, none⟩ : Addr) (by first | rfl | (simp [Act.eval, Addr.add_mid])) (sqC (concS x) (.slice AD nD cD)) _ (fun w9 hr9 => var_all HX1.out w9 (reg_below hr9)) Try.underlying28 rfl (by kernel_rfl) ?_; refine hK _ ?_; clear hK K; go_frame)
        quiet_step (first | (go_at_call 16; exact Calls.regrown_of (HFX.out _ (below_regrown _ _ _))))
        (first | go_big_quiet_step (fail) | quiet_step (fail))
        (first | go_big_quiet_step (fail) | quiet_step (fail))
        (first | go_big_quiet_step (fail) | quiet_step (fail))
        (refine wpQuiet_step (fun K hK => ?_); refine quiet_load_at (by kernel_rfl) 28 _ rfl (⟨gn, 0, none⟩ : Addr) (by first | rfl | (simp [Act.eval, Addr.add_mid])) (sqC (concS y) (.slice AE nE cE)) _ (fun w9 hr9 => var_all HX2.out w9 (reg_below hr9)) Try.underlying28 rfl (by kernel_rfl) ?_; refine hK _ ?_; clear hK K; go_frame)
        quiet_step (first | (go_at_call 16; exact Calls.regrown_of (HFW.out _ (below_regrown _ _ _))))
        (first | go_big_quiet_step (fail) | quiet_step (fail))
        (first | go_big_quiet_step (fail) | quiet_step (fail))
        (first | go_big_quiet_step (fail) | quiet_step (fail))
        (first | go_big_quiet_step (fail) | quiet_step (fail))
        (first | go_big_quiet_step (fail) | quiet_step (fail))
        (first | go_big_quiet_step (fail) | quiet_step (fail))
        (refine wpQuiet_step (fun K hK => ?_); refine quiet_load_at (by kernel_rfl) 28 _ rfl (⟨gn, 0, none⟩ : Addr) (by first | rfl | (simp [Act.eval, Addr.add_mid])) (sqC (concS y) (.slice AE nE cE)) _ (fun w9 hr9 => var_all HX2.out w9 (reg_below hr9)) Try.underlying28 rfl (by kernel_rfl) ?_; refine hK _ ?_; clear hK K; go_frame)
        quiet_step (first | (go_at_call 18; exact Calls.regrown_of (HEW.out _ (below_regrown _ _ _))))
        (first | go_big_quiet_step (fail) | quiet_step (fail))
        (refine wpQuiet_step (fun K hK => ?_); refine quiet_load_cell (by kernel_rfl) 3 _ rfl ((⟨g1, 0, none⟩ : Addr).add 2) (by first | rfl | (simp [Act.eval, Addr.add_mid])) (.int .i64 z2) _ C12.out Try.underlying3 rfl ?_; refine hK _ ?_; clear hK K; go_frame)
        (first | go_big_quiet_step (fail) | quiet_step (fail))
        (refine wpQuiet_step (fun K hK => ?_); refine quiet_load_cell (by kernel_rfl) 26 _ rfl ((⟨g1, 0, none⟩ : Addr).add 1) (by first | rfl | (simp [Act.eval, Addr.add_mid])) (.slice AD nD cD) _ C11.out Try.underlying26 rfl ?_; refine hK _ ?_; clear hK K; go_frame)
        (first | go_big_quiet_step (fail) | quiet_step (fail))
        (first | go_big_quiet_step (fail) | quiet_step (fail))
        (first | go_big_quiet_step (fail) | quiet_step (fail))
        (first | go_big_quiet_step (fail) | quiet_step (fail))
        refine wpQuiet_nil ?_
        intro w9 hw9
        obtain ⟨⟨dq, osq⟩, rfl⟩ := hw9
        have HB9 := Lib.hid ((Below.refl w9.heap.size w9).trans ((below_regrown w9 dq osq).mono (Below.refl w9.heap.size w9).size))
        generalize Sort.grow (redrawn w9 dq) osq = wa at *
        have F6 := Lib.hid (F5.out.call HB9.out)
        clear F5 HB9 HFX HFW HEW C11 C12 HX1 HX2 HBB
        have HCC := Lib.hid (fun w' S (hr : Rvs w' S (sqC (concS y) (.slice AE nE cE)).toList (sqD (concS y))) => close18_any y (sqC (concS y) (.slice AE nE cE)) S w' hr HOY.out)
        have HZ1 : Hid ((closeS y).fin = true ∧ (closeS y).all = y.all) := ⟨rfl, rfl⟩
        obtain ⟨z, hz⟩ : ∃ z, closeS y = z := ⟨_, rfl⟩
        rw [hz] at HCC HZ1 HCY HLY
        have HZL : Hid (z.all.length ≤ 1000000) := by show _ ≤ _; rw [HZ1.out.2, HYA.out]; exact HSL.out
        clear hz
        go_wp2_with (refine wpList_load_row rfl 28 _ rfl gn rfl 28 (sqC (concS y) (.slice AE nE cE)) (0, 0) _ (F6.out.at (i := 0) rfl) Try.underlying28 rfl (by kernel_rfl) ?_)
        refine (HCC.out _ _ (F6.out.val (i := 0) rfl)).mono ?_
        rintro e wb ⟨cs', rfl, hr, hb⟩
        obtain ⟨vG, rfl, -, h1⟩ := sq_of hr
        have H1 := Lib.hid h1
        have F7 := Lib.hid (F6.out.res hb hr)
        clear h1 hr hb F6 HCC
        have F8 : Hid (Frm w (wb.setRow gn (sqC (concS z) vG)) [(gn, (sqC (concS z) vG), 28), (g1, (sqC (concS x) (.slice AD nD cD)), 28)] [((sqC (concS z) vG).toList, sqD (concS z)), ((sqC (concS y) (.slice AE nE cE)).toList, sqD (concS y)), ((sqC (concS x) (.slice AD nD cD)).toList, sqD (concS x))]) := Lib.hid (F7.out.put (i := 0) rfl _)
        have F9 : Hid (Frm w (wb.setRow gn (sqC (concS z) vG)) [(gn, (sqC (concS z) vG), 28), (g1, (sqC (concS x) (.slice AD nD cD)), 28)] [((sqC (concS z) vG).toList, sqD (concS z))]) := Lib.hid (F8.out.drop 0 rfl (fun p hp => by simp only [List.mem_cons, List.not_mem_nil, or_false] at hp ⊢; rcases hp with rfl; simp))
        go_upto_region 19 with (refine wpList_store_row rfl 28 _ _ rfl gn (sqC (concS z) vG) rfl rfl 28 (sqC (concS y) (.slice AE nE cE)) (F7.out.at (i := 0) rfl) (by kernel_rfl) rfl H1.out ?_)
        generalize wb.setRow gn (sqC (concS z) vG) = wd at F9 ⊢
        clear F7 F8 H1
        have HZF := Lib.hid HZ1.out.1
        clear HZ1
        go_wp2
        go_loopw [123] (fun t123 wr => ∃ (j : Nat) (z : Sx) (a : Value), j ≤ 300 ∧ t123 = .int .i64 (j : Int) ∧ Hid (OkS z) ∧ Hid (z.fin = true) ∧ Hid (z.all.length ≤ 1000000) ∧ Hid (leftS z + j ≤ 257) ∧ Hid (Frm w wr [(gn, (sqC (concS z) a), 28), (g1, (sqC (concS x) (.slice AD nD cD)), 28)] [((sqC (concS z) a).toList, sqD (concS z))])) (fun t123 _ => 300 - (intOf t123).toNat)
        case atStart => exact ⟨0, z, vG, Nat.zero_le _, rfl, HCY, HZF, HZL, HLY, F9⟩
        case round =>
          clear F9 HLY HZL HZF HCY
          obtain ⟨j, z, vG, hj, rfl, HOZ, HZF, HZL, HLJ, F2⟩ := hrel
          have hlj := HLJ.out
          by_cases hjt : j < 300
          · have hjt2 : (j : Int) < 300 := by omega
            rename World => wr
            obtain ⟨pa2, ld, hP, hl2, hsn, -⟩ := next_data HOZ.out 1000 64
            have HCN := Lib.hid (next18_any z (sqC (concS z) vG) _ 1000 64 wr (F2.out.val (i := 0) rfl) HOZ.out ⟨by decide, by decide⟩ ⟨by decide, by decide⟩)
            rw [hP] at HCN
            have HOU := Lib.hid (next_okS HOZ.out 1000 64)
            have HUF : Hid ((nextS z 1000 64).fin = true) := HZF.out
            have HUL : Hid ((nextS z 1000 64).all.length ≤ 1000000) := HZL.out
            have HLD := Lib.hid (fun h => left_done' (x := z) HOZ.out h)
            have HLS := Lib.hid (fun h => left_less' (x := z) HOZ.out h)
            obtain ⟨ok, hok⟩ : ∃ ok, nextO z 1000 64 = ok := ⟨_, rfl⟩
            rw [hok] at HCN HLD HLS
            generalize nextE z 1000 64 = en at HCN
            obtain ⟨u, hu⟩ : ∃ u, nextS z 1000 64 = u := ⟨_, rfl⟩
            rw [hu] at HCN HOU HUF HUL HLS
            clear hP hsn hok hu hl2
            go_wp2_with (refine wpList_load_row rfl 28 _ rfl gn rfl 28 (sqC (concS z) vG) (0, 0) _ (F2.out.at (i := 0) rfl) Try.underlying28 rfl (by kernel_rfl) ?_)
            refine HCN.out.mono ?_
            rintro e wm ⟨cs', ps, rfl, hr, hp, hb⟩
            obtain ⟨vH, rfl, -, h1⟩ := sq_of hr
            obtain ⟨vP2, rfl, hvP, h2⟩ := pc_of hp
            have H1 := Lib.hid h1
            have H2 := Lib.hid h2
            have F3 := Lib.hid (F2.out.res hb hr)
            clear h1 h2 hr hp hb hvP F2 HCN
            have F4 := Lib.hid ((F3.out.alloc #[.int .u32 0, .slice none 0 0, .int .i64 0, .bool false, .bool false, .bool false] 28).alloc #[.int .u32 0, .slice none 0 0] 46)
            rw [show (wm.alloc (.cells #[.int .u32 0, .slice none 0 0, .int .i64 0, .bool false, .bool false, .bool false] 28)).heap.size = wm.heap.size + 1 from by simp] at F4
            have F5 := Lib.hid (F4.out.put (i := 1) rfl (sqC (concS u) vH))
            go_upto_region 22 with (first | (refine wpList_store_row rfl 28 _ _ rfl wm.heap.size (sqC (concS u) vH) rfl rfl 28 #[.int .u32 0, .slice none 0 0, .int .i64 0, .bool false, .bool false, .bool false] (F4.out.at (i := 1) rfl) (by kernel_rfl) rfl H1.out ?_) | (refine wpList_store_row rfl 46 _ _ rfl (wm.heap.size + 1) (#[.int .u32 pa2, vP2] : Array Value) rfl rfl 46 #[.int .u32 0, .slice none 0 0] (F5.out.at (i := 0) rfl) (by kernel_rfl) rfl H2.out ?_) | go_in)
            have F6 := Lib.hid (F5.out.put (i := 0) rfl (#[.int .u32 pa2, vP2] : Array Value))
            obtain ⟨ga, hga⟩ : ∃ g, wm.heap.size = g := ⟨_, rfl⟩
            obtain ⟨gq, hgp⟩ : ∃ g, ga + 1 = g := ⟨_, rfl⟩
            have F7 : Hid (Frm w ((((wm.alloc (.cells #[.int .u32 0, .slice none 0 0, .int .i64 0, .bool false, .bool false, .bool false] 28)).alloc (.cells #[.int .u32 0, .slice none 0 0] 46)).setRow wm.heap.size (sqC (concS u) vH)).setRow (wm.heap.size + 1) (#[.int .u32 pa2, vP2] : Array Value)) [(wm.heap.size + 1, (#[.int .u32 pa2, vP2] : Array Value), 46), (wm.heap.size, (sqC (concS u) vH), 28), (gn, (sqC (concS z) vG), 28), (g1, (sqC (concS x) (.slice AD nD cD)), 28)] [((sqC (concS u) vH).toList, sqD (concS u)), ((sqC (concS z) vG).toList, sqD (concS z))]) := F6
            generalize (((wm.alloc (.cells #[.int .u32 0, .slice none 0 0, .int .i64 0, .bool false, .bool false, .bool false] 28)).alloc (.cells #[.int .u32 0, .slice none 0 0] 46)).setRow wm.heap.size (sqC (concS u) vH)).setRow (wm.heap.size + 1) (#[.int .u32 pa2, vP2] : Array Value) = wk at F7 ⊢
            rw [hga, hgp] at F7 ⊢
            clear F3 F4 F5 F6 hga hgp H2
            cases ok
            · obtain ⟨hse, hfe⟩ := HLD.out rfl
              have F8 : Hid (Frm w wk [(gn, (sqC (concS z) vG), 28), (g1, (sqC (concS x) (.slice AD nD cD)), 28)] [((sqC (concS z) vG).toList, sqD (concS z))]) := Lib.hid (F7.out.drop 2 rfl (fun p hp => by simp only [List.mem_cons, List.not_mem_nil, or_false] at hp ⊢; rcases hp with rfl; simp))
              clear F7 HLD HLS H1 HOU HUF HUL HFL
              obtain ⟨hN, hE, -⟩ := ack_all HOZ.out
              obtain ⟨q, hq⟩ : ∃ q, ackS z (addS (addS z.first z.acked) (flightS z)) = q := ⟨_, rfl⟩
              obtain ⟨hoq, heq, hfq, haq⟩ := ack_end HOZ.out HZF.out hse (hfe.trans HZF.out) hq
              have HWA : Hid (((concS z).una + (flightS z : Int) % 4294967296) % 4294967296 = addS (addS z.first z.acked) (flightS z)) := wrap_add (concS z).una _
              have HAU : Hid (U32 (addS (addS z.first z.acked) (flightS z))) := ⟨addS_ge _ _, addS_le _ _⟩
              have HCA := Lib.hid (fun w' cs S (hr : Rvs w' S cs.toList (sqD (concS z))) => ack18_any z cs S (addS (addS z.first z.acked) (flightS z)) w' hr HOZ.out HAU.out)
              rw [hN, hE, hq] at HCA
              have HFL := Lib.hid (fun w' cs S (hr : Rvs w' S cs.toList (sqD (concS z))) => flight18_any z cs S w' hr HOZ.out)
              have hfs2 := flight_small HOZ.out
              obtain ⟨AT2, hAT⟩ : ∃ AT, addS (addS z.first z.acked) (flightS z) = AT := ⟨_, rfl⟩
              rw [hAT] at HWA HAU HCA
              obtain ⟨fm, hfm⟩ : ∃ fm, flightS z = fm := ⟨_, rfl⟩
              rw [hfm] at HWA HCA HFL hfs2
              have HWC : Hid (IntKind.u32.wrap ((concS z).una + IntKind.u32.wrap (fm : Int)) = AT2) := by show _ = _; rw [IntKind.wrap_u32, IntKind.wrap_u32]; exact HWA.out
              have HOQ := Lib.hid hoq
              have HEQ := Lib.hid heq
              have HFQ := Lib.hid hfq
              have HAQ := Lib.hid haq
              clear hN hE hq hoq heq hfq haq hAT hfm hse hfe HWA HAU
              have HG2 := Lib.hid (F8.out.at (i := 0) rfl)
              have HBIG : Hid (∀ b, wk.heap.size ≤ b → (Nv [gn, g1]) b) := fun b hb hm => by
                have := F8.out.lt b hm
                omega
              have HRI : Hid (Rvs wk (fun b => (Nv [gn, g1]) b ∧ b < wk.heap.size) (sqC (concS z) vG).toList (sqD (concS z))) := rvs_tight' (F8.out.val (i := 0) rfl)
              go_upto_region 25 with (fail)
              apply wp_region_relyV [7, 8, 9, 12, 13] [144, 136, 145, 18] (NewC wk (Nv [gn, g1]) 7 8 9 12 13 144 136 145 18 28 #[.int .u32 0, .slice none 0 0, .int .i64 0, .bool false, .bool false, .bool false] (sqD (concS q)) #[.int .i64 (fm : Int), .int .i64 0]) (RL [Is (.agg (sqC (concS z) vG)), Is _, Is (.int .u32 (concS z).una), Is (.agg (sqC (concS z) vG)), Is (.int .i64 (fm : Int)), Is _, Is (.int .u32 AT2), Any, Any, Any, Is (.int .i64 (fm : Int)), Is (.int .i64 0), Any, Any, Is (.int .i64 (fm : Int)), Is (.int .i64 0)]) [false, false, false, false, false, false, false, false, false, false, false, false, false, false, false, false, false, false, true, true, true, false, false, false, false, false, false, false, false, false, false, false, false, false, false, false, false, false, false, false, false, false, false, false, false, false, false, false, false, false, false, false, false, false, false, false, false, false, false, false, false, false, false, false, false, false, false, false, false, false, false, false, false, false, false, false, false, false, false, false, false, false, false, false, false, false, false, false, false, false, false, false, false, false, false, false, false, false, false, false, false, false, false, false, false, false, false, false, false, false, false, false, false, false, false, false, false, false, false, false, false, false, false, false, false, false, false, false, false, false, false, false, false, false, false, false, true, true, true, true, true, true, true, true, true, true, true, true, false, false, false, false, false, false, false, false, false, false, false, false, false, false]
              · kernel_rfl
              · kernel_rfl
              · kernel_rfl
              · refine ⟨?_, ?_, ?_, ?_, ?_, ?_, ?_, ?_, ?_, ?_, ?_, ?_, ?_, ?_, ?_, ?_, trivial⟩
                · intro L us ev w' hus hC hL hx hnd K hK
                  have e8 : ev (.tmp 8) = _ := hx.base 8 (by kernel_rfl)
                  have HK := Lib.hid hK
                  have HC := Lib.hid hC
                  have HL := Lib.hid hL
                  have HX := Lib.hid hx
                  have HUS := Lib.hid hus
                  have HND := Lib.hid hnd
                  have hc := hx.cst
                  skip
                  clear hx hK hC hL hus hnd
                  have q1 : ev (.tmp 8) = .pointer (some ⟨gn, 0, none⟩) := e8
                  have hld := run_loadVar_row (P := Try.prog) w' gn 28 28 (sqC (concS z) vG) (0, 0) _ ((HC.out.below.block _ (row_lt HG2.out)).trans HG2.out) Try.underlying28 rfl (by kernel_rfl)
                  unfold Run
                  rw [rely_load 28 _ rfl q1 hld]
                  exact HK.out _ _ (.inl ⟨Below.refl _ _, by decide⟩) rfl
                · intro L us ev w' hus hC hL hx hnd K hK
                  have e8 : ev (.tmp 8) = _ := hx.base 8 (by kernel_rfl)
                  have HK := Lib.hid hK
                  have HC := Lib.hid hC
                  have HL := Lib.hid hL
                  have HX := Lib.hid hx
                  have HUS := Lib.hid hus
                  have HND := Lib.hid hnd
                  have hc := hx.cst
                  skip
                  clear hx hK hC hL hus hnd
                  unfold Run
                  simp [execOp, Upon, go_sem, *]
                  exact HK.out _ _ (.inl ⟨Below.refl _ _, by decide⟩) rfl
                · intro L us ev w' hus hC hL hx hnd K hK
                  have e138 := hx.held 1 _ rfl (by kernel_rfl)
                  change ev (.tmp 138) = _ at e138
                  have HK := Lib.hid hK
                  have HC := Lib.hid hC
                  have HL := Lib.hid hL
                  have HX := Lib.hid hx
                  have HUS := Lib.hid hus
                  have HND := Lib.hid hnd
                  have hc := hx.cst
                  skip
                  clear hx hK hC hL hus hnd
                  have q1 : ev (.tmp 138) = .pointer (some ⟨gn, 0, none⟩) := e138
                  have hld := run_loadVar_cell (P := Try.prog) w' ⟨gn, 0, none⟩ 22 (.int .u32 (concS z).una) _ ((cell_of_row _ _ _ _ _ _ ((HC.out.below.block _ (row_lt HG2.out)).trans HG2.out)).trans rfl) Try.underlying22 rfl
                  unfold Run
                  rw [rely_load 22 _ rfl q1 hld]
                  exact HK.out _ _ (.inl ⟨Below.refl _ _, by decide⟩) rfl
                · intro L us ev w' hus hC hL hx hnd K hK
                  have e8 : ev (.tmp 8) = _ := hx.base 8 (by kernel_rfl)
                  have HK := Lib.hid hK
                  have HC := Lib.hid hC
                  have HL := Lib.hid hL
                  have HX := Lib.hid hx
                  have HUS := Lib.hid hus
                  have HND := Lib.hid hnd
                  have hc := hx.cst
                  skip
                  clear hx hK hC hL hus hnd
                  have q1 : ev (.tmp 8) = .pointer (some ⟨gn, 0, none⟩) := e8
                  have hld := run_loadVar_row (P := Try.prog) w' gn 28 28 (sqC (concS z) vG) (0, 0) _ ((HC.out.below.block _ (row_lt HG2.out)).trans HG2.out) Try.underlying28 rfl (by kernel_rfl)
                  unfold Run
                  rw [rely_load 28 _ rfl q1 hld]
                  exact HK.out _ _ (.inl ⟨Below.refl _ _, by decide⟩) rfl
                · intro L us ev w' hus hC hL hx hnd K hK
                  have e140 := hx.held 3 _ rfl (by kernel_rfl)
                  change ev (.tmp 140) = _ at e140
                  have HK := Lib.hid hK
                  have HC := Lib.hid hC
                  have HL := Lib.hid hL
                  have HX := Lib.hid hx
                  have HUS := Lib.hid hus
                  have HND := Lib.hid hnd
                  have hc := hx.cst
                  have hf := hx.fn
                  clear hx hK hC hL hus hnd
                  unfold Run
                  simp [execOp, Upon, go_sem, *]
                  refine (HFL.out w' _ _ (HRI.out.kept HC.out.below (fun _ h => h.2))).mono ?_
                  rintro e w2 ⟨rfl, hb⟩
                  exact ⟨_, rfl, HK.out _ _ (.inl ⟨hb, by decide⟩) rfl⟩
                · intro L us ev w' hus hC hL hx hnd K hK
                  have e141 := hx.held 4 _ rfl (by kernel_rfl)
                  change ev (.tmp 141) = _ at e141
                  have HK := Lib.hid hK
                  have HC := Lib.hid hC
                  have HL := Lib.hid hL
                  have HX := Lib.hid hx
                  have HUS := Lib.hid hus
                  have HND := Lib.hid hnd
                  have hc := hx.cst
                  skip
                  clear hx hK hC hL hus hnd
                  unfold Run
                  simp [execOp, Upon, go_sem, *]
                  exact HK.out _ _ (.inl ⟨Below.refl _ _, by decide⟩) rfl
                · intro L us ev w' hus hC hL hx hnd K hK
                  have e139 := hx.held 2 _ rfl (by kernel_rfl)
                  have e142 := hx.held 5 _ rfl (by kernel_rfl)
                  change ev (.tmp 139) = _ at e139
                  change ev (.tmp 142) = _ at e142
                  have HK := Lib.hid hK
                  have HC := Lib.hid hC
                  have HL := Lib.hid hL
                  have HX := Lib.hid hx
                  have HUS := Lib.hid hus
                  have HND := Lib.hid hnd
                  have hc := hx.cst
                  skip
                  clear hx hK hC hL hus hnd
                  have hwc := HWC.out
                  unfold Run
                  simp [execOp, Upon, go_sem, *]
                  exact HK.out _ _ (.inl ⟨Below.refl _ _, by decide⟩) rfl
                · intro L us ev w' hus hC hL hx hnd K hK
                  have e137 := hx.held 0 _ rfl (by kernel_rfl)
                  have e143 := hx.held 6 _ rfl (by kernel_rfl)
                  change ev (.tmp 137) = _ at e137
                  change ev (.tmp 143) = _ at e143
                  have HK := Lib.hid hK
                  have HC := Lib.hid hC
                  have HL := Lib.hid hL
                  have HX := Lib.hid hx
                  have HUS := Lib.hid hus
                  have HND := Lib.hid hnd
                  have hc := hx.cst
                  have hf := hx.fn
                  clear hx hK hC hL hus hnd
                  unfold Run
                  simp [execOp, Upon, go_sem, *]
                  refine (HCA.out w' _ _ (HRI.out.kept HC.out.below (fun _ h => h.2))).mono ?_
                  rintro e w2 ⟨cs', rfl, hr, hb⟩
                  exact ⟨_, rfl, HK.out _ _ (.inr ⟨HC.out.called HL.out HBIG.out hb (hr.wide fun b hb2 => by
                    rcases hb2 with hb2 | hb2
                    · exact .inl ((fun b hb => hb) b hb2)
                    · exact .inr hb2) (by decide) (by decide) (by decide) (by decide) (by decide), fun j hj hlj u hr => rl_mono (Rs := [Is (.agg (sqC (concS z) vG)), Is _, Is (.int .u32 (concS z).una), Is (.agg (sqC (concS z) vG)), Is (.int .i64 (fm : Int)), Is _, Is (.int .u32 AT2), Any, Any, Any, Is (.int .i64 (fm : Int)), Is (.int .i64 0), Any, Any, Is (.int .i64 (fm : Int)), Is (.int .i64 0)]) ⟨is_mono _, is_mono _, is_mono _, is_mono _, is_mono _, is_mono _, is_mono _, any_mono, any_mono, any_mono, is_mono _, is_mono _, any_mono, any_mono, is_mono _, is_mono _, trivial⟩ j u _ _ (hb) hr⟩) trivial⟩
                · intro L us ev w' hus hC hL hx hnd K hK
                  have e144 := hx.held 7 _ rfl (by kernel_rfl)
                  change (Any : Pred) (ev (.tmp 144)) w' at e144
                  have HK := Lib.hid hK
                  have HC := Lib.hid hC
                  have HL := Lib.hid hL
                  have HX := Lib.hid hx
                  have HUS := Lib.hid hus
                  have HND := Lib.hid hnd
                  have hc := hx.cst
                  skip
                  clear hx hK hC hL hus hnd
                  have hc9 : L 7 = true := HND.out 7 (by kernel_rfl)
                  have q1 : ev (.tmp 144) = us 144 := HUS.out 144
                  unfold Run
                  simp [execOp, Upon, go_sem]
                  rw [q1]
                  exact HK.out _ _ (.inr ⟨HC.out.moved HL.out hc9 (by decide) (by decide) (by decide) (by decide) (by decide) (by decide), fun j hj hlj u hr => rl_mono (Rs := [Is (.agg (sqC (concS z) vG)), Is _, Is (.int .u32 (concS z).una), Is (.agg (sqC (concS z) vG)), Is (.int .i64 (fm : Int)), Is _, Is (.int .u32 AT2), Any, Any, Any, Is (.int .i64 (fm : Int)), Is (.int .i64 0), Any, Any, Is (.int .i64 (fm : Int)), Is (.int .i64 0)]) ⟨is_mono _, is_mono _, is_mono _, is_mono _, is_mono _, is_mono _, is_mono _, any_mono, any_mono, any_mono, is_mono _, is_mono _, any_mono, any_mono, is_mono _, is_mono _, trivial⟩ j u _ _ (Below.refl _ _) hr⟩) trivial
                · intro L us ev w' hus hC hL hx hnd K hK
                  have e136 := hx.held 8 _ rfl (by kernel_rfl)
                  change (Any : Pred) (ev (.tmp 136)) w' at e136
                  have HK := Lib.hid hK
                  have HC := Lib.hid hC
                  have HL := Lib.hid hL
                  have HX := Lib.hid hx
                  have HUS := Lib.hid hus
                  have HND := Lib.hid hnd
                  have hc := hx.cst
                  skip
                  clear hx hK hC hL hus hnd
                  have hm9 : L 8 = true := HND.out 8 (by kernel_rfl)
                  obtain ⟨hc9, hm8⟩ := HC.out.move hm9
                  obtain ⟨C9, hC9, -⟩ := HC.out.call hc9
                  have q1 : ev (.tmp 136) = .tuple (#[.agg C9] ++ #[.int .i64 (fm : Int), .int .i64 0]) := (HUS.out 136).trans (hm8.trans hC9)
                  unfold Run
                  simp [execOp, Upon, go_sem, q1]
                  exact HK.out _ _ (.inr ⟨HC.out.taken hm9 hC9 (by decide) (by decide) (by decide) (by decide) (by decide) (by decide) (by decide), fun j hj hlj u hr => rl_mono (Rs := [Is (.agg (sqC (concS z) vG)), Is _, Is (.int .u32 (concS z).una), Is (.agg (sqC (concS z) vG)), Is (.int .i64 (fm : Int)), Is _, Is (.int .u32 AT2), Any, Any, Any, Is (.int .i64 (fm : Int)), Is (.int .i64 0), Any, Any, Is (.int .i64 (fm : Int)), Is (.int .i64 0)]) ⟨is_mono _, is_mono _, is_mono _, is_mono _, is_mono _, is_mono _, is_mono _, any_mono, any_mono, any_mono, is_mono _, is_mono _, any_mono, any_mono, is_mono _, is_mono _, trivial⟩ j u _ _ (Below.refl _ _) hr⟩) trivial
                · intro L us ev w' hus hC hL hx hnd K hK
                  have e136 := hx.held 8 _ rfl (by kernel_rfl)
                  change (Any : Pred) (ev (.tmp 136)) w' at e136
                  have HK := Lib.hid hK
                  have HC := Lib.hid hC
                  have HL := Lib.hid hL
                  have HX := Lib.hid hx
                  have HUS := Lib.hid hus
                  have HND := Lib.hid hnd
                  have hc := hx.cst
                  skip
                  clear hx hK hC hL hus hnd
                  have hm9 : L 8 = true := HND.out 8 (by kernel_rfl)
                  obtain ⟨hc9, hm8⟩ := HC.out.move hm9
                  obtain ⟨C9, hC9, -⟩ := HC.out.call hc9
                  have q1 : ev (.tmp 136) = .tuple (#[.agg C9] ++ #[.int .i64 (fm : Int), .int .i64 0]) := (HUS.out 136).trans (hm8.trans hC9)
                  unfold Run
                  simp [execOp, Upon, go_sem, q1]
                  exact HK.out _ _ (.inl ⟨Below.refl _ _, by decide⟩) rfl
                · intro L us ev w' hus hC hL hx hnd K hK
                  have e136 := hx.held 8 _ rfl (by kernel_rfl)
                  change (Any : Pred) (ev (.tmp 136)) w' at e136
                  have HK := Lib.hid hK
                  have HC := Lib.hid hC
                  have HL := Lib.hid hL
                  have HX := Lib.hid hx
                  have HUS := Lib.hid hus
                  have HND := Lib.hid hnd
                  have hc := hx.cst
                  skip
                  clear hx hK hC hL hus hnd
                  have hm9 : L 8 = true := HND.out 8 (by kernel_rfl)
                  obtain ⟨hc9, hm8⟩ := HC.out.move hm9
                  obtain ⟨C9, hC9, -⟩ := HC.out.call hc9
                  have q1 : ev (.tmp 136) = .tuple (#[.agg C9] ++ #[.int .i64 (fm : Int), .int .i64 0]) := (HUS.out 136).trans (hm8.trans hC9)
                  unfold Run
                  simp [execOp, Upon, go_sem, q1]
                  exact HK.out _ _ (.inl ⟨Below.refl _ _, by decide⟩) rfl
                · intro L us ev w' hus hC hL hx hnd K hK
                  have HK := Lib.hid hK
                  have HC := Lib.hid hC
                  have HL := Lib.hid hL
                  have HX := Lib.hid hx
                  have HUS := Lib.hid hus
                  have HND := Lib.hid hnd
                  have hc := hx.cst
                  skip
                  clear hx hK hC hL hus hnd
                  have nst : L 13 = false := Bool.eq_false_iff.2 fun h => by have h9 := HX.out.closed 13 _ 12 rfl h (by kernel_rfl); rw [HL.out] at h9; cases h9
                  unfold Run
                  simp [execOp, Upon, go_sem]
                  exact HK.out _ _ (.inr ⟨HC.out.made HL.out nst (by decide) (by decide) (by decide) (by decide) (by decide) (by decide) (by decide), fun j hj hlj u hr => rl_mono (Rs := [Is (.agg (sqC (concS z) vG)), Is _, Is (.int .u32 (concS z).una), Is (.agg (sqC (concS z) vG)), Is (.int .i64 (fm : Int)), Is _, Is (.int .u32 AT2), Any, Any, Any, Is (.int .i64 (fm : Int)), Is (.int .i64 0), Any, Any, Is (.int .i64 (fm : Int)), Is (.int .i64 0)]) ⟨is_mono _, is_mono _, is_mono _, is_mono _, is_mono _, is_mono _, is_mono _, any_mono, any_mono, any_mono, is_mono _, is_mono _, any_mono, any_mono, is_mono _, is_mono _, trivial⟩ j u _ _ ((Below.refl _ _).alloc (Nat.le_refl _) _) hr⟩) trivial
                · intro L us ev w' hus hC hL hx hnd K hK
                  have e18 := hx.held 12 _ rfl (by kernel_rfl)
                  have e145 := hx.held 9 _ rfl (by kernel_rfl)
                  change (Any : Pred) (ev (.tmp 18)) w' at e18
                  change (Any : Pred) (ev (.tmp 145)) w' at e145
                  have HK := Lib.hid hK
                  have HC := Lib.hid hC
                  have HL := Lib.hid hL
                  have HX := Lib.hid hx
                  have HUS := Lib.hid hus
                  have HND := Lib.hid hnd
                  have hc := hx.cst
                  skip
                  clear hx hK hC hL hus hnd
                  have ha9 : L 12 = true := HND.out 12 (by kernel_rfl)
                  have he9 : L 9 = true := HND.out 9 (by kernel_rfl)
                  obtain ⟨g9, C9, hg9, hC9, hs9, h19, hh9, -, hn9⟩ := HC.out.laid (v := undef) HL.out ha9 he9 (by rfl) (by decide) (by decide) (by decide) (by decide)
                  have qp : ev (.tmp 18) = .pointer (some ⟨g9, 0, none⟩) := (HUS.out 18).trans hg9
                  have qv : ev (.tmp 145) = .agg C9 := (HUS.out 145).trans hC9
                  have hst := run_storeVar_row (P := Try.prog) w' g9 28 28 #[.int .u32 0, .slice none 0 0, .int .i64 0, .bool false, .bool false, .bool false] C9 hh9 (by rw [hs9]; kernel_rfl) hs9.symm h19
                  unfold Run
                  rw [rely_store 28 _ _ rfl qp qv hst]
                  refine HK.out _ _ (.inr ⟨hn9, fun j hj hlj u hr => ?_⟩) trivial
                  rcases j with _ | _ | _ | _ | _ | _ | _ | _ | _ | _ | _ | _ | _ | _ | _ | _ | j
                  · exact hr
                  · exact hr
                  · exact hr
                  · exact hr
                  · exact hr
                  · exact hr
                  · exact hr
                  · exact trivial
                  · exact trivial
                  · exact trivial
                  · exact hr
                  · exact hr
                  · exact trivial
                  · exact absurd rfl hj
                  · exact hr
                  · exact hr
                  · exact trivial
                · intro L us ev w' hus hC hL hx hnd K hK
                  have e146 := hx.held 10 _ rfl (by kernel_rfl)
                  change ev (.tmp 146) = _ at e146
                  have HK := Lib.hid hK
                  have HC := Lib.hid hC
                  have HL := Lib.hid hL
                  have HX := Lib.hid hx
                  have HUS := Lib.hid hus
                  have HND := Lib.hid hnd
                  have hc := hx.cst
                  skip
                  clear hx hK hC hL hus hnd
                  unfold Run
                  simp [execOp, Upon, go_sem, *]
                  exact HK.out _ _ (.inl ⟨Below.refl _ _, by decide⟩) rfl
                · intro L us ev w' hus hC hL hx hnd K hK
                  have e147 := hx.held 11 _ rfl (by kernel_rfl)
                  change ev (.tmp 147) = _ at e147
                  have HK := Lib.hid hK
                  have HC := Lib.hid hC
                  have HL := Lib.hid hL
                  have HX := Lib.hid hx
                  have HUS := Lib.hid hus
                  have HND := Lib.hid hnd
                  have hc := hx.cst
                  skip
                  clear hx hK hC hL hus hnd
                  unfold Run
                  simp [execOp, Upon, go_sem, *]
                  exact HK.out _ _ (.inl ⟨Below.refl _ _, by decide⟩) rfl
              · exact rl_mono ⟨is_mono _, is_mono _, is_mono _, is_mono _, is_mono _, is_mono _, is_mono _, any_mono, any_mono, any_mono, is_mono _, is_mono _, any_mono, any_mono, is_mono _, is_mono _, trivial⟩
              · exact fun L L' us us' w' h1 h2 hg => hg.agree (h1 7 (by simp)) (h1 8 (by simp)) (h1 9 (by simp)) (h1 12 (by simp)) (h1 13 (by simp)) (h2 144 (by simp)) (h2 136 (by simp)) (h2 145 (by simp)) (h2 18 (by simp))
              · exact fun L us w' w'' hb hg => hg.under hb
              · kernel_rfl
              · exact NewC.start
              · simp
              intro us wr hG hH
              obtain ⟨-, -, -, -, -, -, h6, -, -, -, -, -, -, -, h14, h15, -⟩ := hH
              simp only [fillM]
              obtain ⟨hB9, gz, C9, hgn, hcn, hmn, hen, hgb, E, hvn, hse, hrn⟩ := NewC.done hG
              rw [hgn]
              have HVN := Lib.hid hvn
              have HSE := Lib.hid hse
              have HRN := Lib.hid hrn
              have HGB := Lib.hid hgb
              have HB9 := Lib.hid hB9
              clear hB9 hvn hse hrn hgb hcn hmn hen hG
              change us 143 = _ at h6
              rw [h6]
              clear h6
              change us 19 = _ at h14
              rw [h14]
              clear h14
              change us 20 = _ at h15
              rw [h15]
              clear h15
              generalize us 137 = v137
              generalize us 138 = v138
              generalize us 139 = v139
              generalize us 140 = v140
              generalize us 141 = v141
              generalize us 142 = v142
              generalize us 144 = v144
              generalize us 136 = v136
              generalize us 145 = v145
              generalize us 146 = v146
              generalize us 147 = v147
              clear hgn
              obtain ⟨vQ, rfl, -, -⟩ := sq_of HRN.out
              have F9 : Hid (Frm w wr [(gz, (sqC (concS q) vQ), 28), (gn, (sqC (concS z) vG), 28), (g1, (sqC (concS x) (.slice AD nD cD)), 28)] [((sqC (concS q) vQ).toList, sqD (concS q)), ((sqC (concS z) vG).toList, sqD (concS z))]) := Lib.hid ((F8.out.have' HB9.out HGB.out HVN.out).add (HRN.out.wide fun b hb hm => by
                have h2 : b ∉ [gn, g1] := hb.1
                have h3 : b ≠ gz := hb.2
                simp only [List.map_cons, List.map_nil, List.mem_cons, List.not_mem_nil, or_false] at hm h2
                rcases hm with hm | hm
                · exact h3 hm
                · exact h2 hm))
              clear F8 HB9 HGB HVN HRN HSE HRI HBIG HG2 HCA HWC HFL
              have six : ∀ {w : World} {b : Nat} {v0 v1 v2 v3 v4 v5 : Value} {t : TypeId} {fr : Nat × Nat}, w.heap[b]? = some (.cells #[v0, v1, v2, v3, v4, v5] t fr) → w.cell? ⟨b, 0, none⟩ = some v0 ∧ w.cell? ⟨b, 1, none⟩ = some v1 ∧ w.cell? ⟨b, 2, none⟩ = some v2 ∧ w.cell? ⟨b, 3, none⟩ = some v3 ∧ w.cell? ⟨b, 4, none⟩ = some v4 ∧ w.cell? ⟨b, 5, none⟩ = some v5 := fun h => by
                refine ⟨?_, ?_, ?_, ?_, ?_, ?_⟩ <;> (rw [cell_of_row _ _ _ _ _ _ h]; rfl)
              have HEM : Hid (∀ w9, Below wr.heap.size wr w9 → Calls Try.prog 18 #[.agg #[.int .u32 (concS q).una, vQ, .int .i64 ((concS q).sent : Int), .bool (concS q).fin, .bool (concS q).fsent, .bool (concS q).facked]] w9 fun e w' => e = .returned (.bool true) ∧ Below w9.heap.size w9 w') := fun w9 hb => by
                have h7 := empty18_any q (sqC (concS q) vQ) _ w9 (rvs_call (F9.out.val (i := 0) rfl) hb) HOQ.out
                rw [HEQ.out] at h7
                exact h7
              have HRI : Hid (∀ w9, Below wr.heap.size wr w9 → Calls Try.prog 13 #[.agg #[.int .u32 (concS q).una, vQ, .int .i64 ((concS q).sent : Int), .bool (concS q).fin, .bool (concS q).fsent, .bool (concS q).facked]] w9 fun e w' => e = .returned (.bool true) ∧ Below w9.heap.size w9 w') := fun w9 hb => by
                obtain ⟨v1, e, hr1, -⟩ := sq_of (F9.out.val (i := 0) rfl)
                have e2 : v1 = vQ := by
                  injection e with e
                  injection e with _ e
                  injection e with e _
                  exact e.symm
                subst e2
                have h5 := HOQ.out.sent
                have h6 : q.all.length ≤ 1000000 := by rw [HAQ.out]; exact HZL.out
                have h7 := right18_any (concS q).una ((concS q).sent : Int) v1 (concS q).data (concS q).fin (concS q).fsent (concS q).facked _ w9 ((rv_lt hr1).kept hb (fun _ h => h.2)) (by unfold I64; show _ ∧ ((q.sent - fromS q : Nat) : Int) ≤ _; omega) (by show (q.all.drop (fromS q)).length ≤ _; rw [List.length_drop]; omega)
                rw [conc_right HOQ.out] at h7
                exact h7
              obtain ⟨c0, c1, c2, c3, c4, c5⟩ := six (F9.out.at (i := 0) rfl)
              have F10 : Hid (∀ w9, Below wr.heap.size wr w9 → Frm w w9 [(gz, (sqC (concS q) vQ), 28), (gn, (sqC (concS z) vG), 28), (g1, (sqC (concS x) (.slice AD nD cD)), 28)] [((sqC (concS q) vQ).toList, sqD (concS q)), ((sqC (concS z) vG).toList, sqD (concS z))]) := fun w9 hb => F9.out.call hb
              have HSX : Hid (∀ w9, Below wr.heap.size wr w9 → w9.cell? ⟨gz, 0, none⟩ = some (.int .u32 (concS q).una) ∧ w9.cell? ⟨gz, 1, none⟩ = some vQ ∧ w9.cell? ⟨gz, 2, none⟩ = some (.int .i64 ((concS q).sent : Int)) ∧ w9.cell? ⟨gz, 3, none⟩ = some (.bool (concS q).fin) ∧ w9.cell? ⟨gz, 4, none⟩ = some (.bool (concS q).fsent) ∧ w9.cell? ⟨gz, 5, none⟩ = some (.bool (concS q).facked)) := fun w9 hb => six ((F10.out w9 hb).at (i := 0) rfl)
              have HBF : Hid (∀ w9, Below wr.heap.size wr w9 → Below w.heap.size w w9) := fun w9 hb => (F10.out w9 hb).below
              clear six F9 F10 HOQ HEQ HAQ
              rw [HFQ.out] at HEM HRI HSX c5
              generalize (concS q).una = u0 at HEM HRI HSX c0
              generalize ((concS q).sent : Int) = u2 at HEM HRI HSX c2
              generalize (concS q).fin = u3 at HEM HRI HSX c3
              generalize (concS q).fsent = u4 at HEM HRI HSX c4
              go_wp2_with fail
              refine (HEM.out _ (Below.refl _ _)).mono ?_
              rintro e w8 ⟨rfl, hb⟩
              have HB8 := Lib.hid hb
              clear hb c0 c1 c2 c3 c4 c5
              obtain ⟨c0, c1, c2, c3, c4, c5⟩ := HSX.out w8 HB8.out
              go_wp2_with fail
              refine (HRI.out _ HB8.out).mono ?_
              rintro e w9 ⟨rfl, hb⟩
              have HBG := Lib.hid (HBF.out _ (HB8.out.trans (hb.mono HB8.out.size)))
              clear hb
              go_wp2
              go_ret
              exact ⟨rfl, HBG.out⟩
            · have hls := HLS.out rfl
              have HLU : Hid (leftS u + (j + 1) ≤ 257) := by show _ ≤ _; omega
              clear HLD HLS hls
              go_upto_region 24 with (first | (refine wpList_load_row rfl 28 _ rfl ga rfl 28 (sqC (concS u) vH) (0, 0) _ (F7.out.at (i := 1) rfl) Try.underlying28 rfl (by kernel_rfl) ?_) | (refine wpList_store_row rfl 28 _ _ rfl gn (sqC (concS u) vH) rfl rfl 28 (sqC (concS z) vG) (F7.out.at (i := 2) rfl) (by kernel_rfl) rfl H1.out ?_) | go_in)
              have F8 : Hid (Frm w (wk.setRow gn (sqC (concS u) vH)) [(gq, (#[.int .u32 pa2, vP2] : Array Value), 46), (ga, (sqC (concS u) vH), 28), (gn, (sqC (concS u) vH), 28), (g1, (sqC (concS x) (.slice AD nD cD)), 28)] [((sqC (concS u) vH).toList, sqD (concS u)), ((sqC (concS z) vG).toList, sqD (concS z))]) := Lib.hid (F7.out.put (i := 2) rfl _)
              have F9 : Hid (Frm w (wk.setRow gn (sqC (concS u) vH)) [(gn, (sqC (concS u) vH), 28), (g1, (sqC (concS x) (.slice AD nD cD)), 28)] [((sqC (concS u) vH).toList, sqD (concS u))]) := Lib.hid (F8.out.drop 2 rfl (fun p hp => by simp only [List.mem_cons, List.not_mem_nil, or_false] at hp ⊢; rcases hp with rfl; simp))
              generalize wk.setRow gn (sqC (concS u) vH) = wo at F9 ⊢
              clear F7 F8 H1
              go_wp2
              go_roundw
              case rel => exact ⟨j + 1, u, vH, by omega, by go_num, HOU, HUF, HUL, HLU, F9⟩
              case measure => simp [intOf]; omega
          · omega
      · have hbt := HBB.out.trans (decide_eq_false hz2)
        subst hbt
        refine wp_region_quiet_below (by kernel_rfl) (by kernel_rfl) ?_
        (first | go_big_quiet_step (fail) | quiet_step (fail))
        (first | go_big_quiet_step (fail) | quiet_step (fail))
        (first | go_big_quiet_step (fail) | quiet_step (fail))
        (first | go_big_quiet_step (fail) | quiet_step (fail))
        (refine wpQuiet_step (fun K hK => ?_); refine quiet_load_at (by kernel_rfl) 28 _ rfl (⟨g1, 0, none⟩ : Addr) (by first | rfl | (simp [Act.eval, Addr.add_mid])) (sqC (concS x) (.slice AD nD cD)) _ (fun w9 hr9 => var_all HX1.out w9 (reg_below hr9)) Try.underlying28 rfl (by kernel_rfl) ?_; refine hK _ ?_; clear hK K; go_frame)
        quiet_step (first | (go_at_call 16; exact Calls.regrown_of (HFX.out _ (below_regrown _ _ _))))
        (first | go_big_quiet_step (fail) | quiet_step (fail))
        (first | go_big_quiet_step (fail) | quiet_step (fail))
        (first | go_big_quiet_step (fail) | quiet_step (fail))
        (refine wpQuiet_step (fun K hK => ?_); refine quiet_load_at (by kernel_rfl) 28 _ rfl (⟨gn, 0, none⟩ : Addr) (by first | rfl | (simp [Act.eval, Addr.add_mid])) (sqC (concS y) (.slice AE nE cE)) _ (fun w9 hr9 => var_all HX2.out w9 (reg_below hr9)) Try.underlying28 rfl (by kernel_rfl) ?_; refine hK _ ?_; clear hK K; go_frame)
        quiet_step (first | (go_at_call 16; exact Calls.regrown_of (HFW.out _ (below_regrown _ _ _))))
        (first | go_big_quiet_step (fail) | quiet_step (fail))
        (first | go_big_quiet_step (fail) | quiet_step (fail))
        (first | go_big_quiet_step (fail) | quiet_step (fail))
        (first | go_big_quiet_step (fail) | quiet_step (fail))
        (first | go_big_quiet_step (fail) | quiet_step (fail))
        (first | go_big_quiet_step (fail) | quiet_step (fail))
        (refine wpQuiet_step (fun K hK => ?_); refine quiet_load_at (by kernel_rfl) 28 _ rfl (⟨gn, 0, none⟩ : Addr) (by first | rfl | (simp [Act.eval, Addr.add_mid])) (sqC (concS y) (.slice AE nE cE)) _ (fun w9 hr9 => var_all HX2.out w9 (reg_below hr9)) Try.underlying28 rfl (by kernel_rfl) ?_; refine hK _ ?_; clear hK K; go_frame)
        quiet_step (first | (go_at_call 18; exact Calls.regrown_of (HEW.out _ (below_regrown _ _ _))))
        (first | go_big_quiet_step (fail) | quiet_step (fail))
        (refine wpQuiet_step (fun K hK => ?_); refine quiet_load_cell (by kernel_rfl) 3 _ rfl ((⟨g1, 0, none⟩ : Addr).add 2) (by first | rfl | (simp [Act.eval, Addr.add_mid])) (.int .i64 z2) _ C12.out Try.underlying3 rfl ?_; refine hK _ ?_; clear hK K; go_frame)
        (first | go_big_quiet_step (fail) | quiet_step (fail))
        (refine wpQuiet_step (fun K hK => ?_); refine quiet_load_cell (by kernel_rfl) 26 _ rfl ((⟨g1, 0, none⟩ : Addr).add 1) (by first | rfl | (simp [Act.eval, Addr.add_mid])) (.slice AD nD cD) _ C11.out Try.underlying26 rfl ?_; refine hK _ ?_; clear hK K; go_frame)
        (first | go_big_quiet_step (fail) | quiet_step (fail))
        (first | go_big_quiet_step (fail) | quiet_step (fail))
        (first | go_big_quiet_step (fail) | quiet_step (fail))
        (first | go_big_quiet_step (fail) | quiet_step (fail))
        refine wpQuiet_nil ?_
        intro w9 hw9
        obtain ⟨⟨dq, osq⟩, rfl⟩ := hw9
        have HB9 := Lib.hid ((Below.refl w9.heap.size w9).trans ((below_regrown w9 dq osq).mono (Below.refl w9.heap.size w9).size))
        generalize Sort.grow (redrawn w9 dq) osq = wa at *
        have F6 := Lib.hid (F5.out.call HB9.out)
        clear F5 HB9 HFX HFW HEW C11 C12 HX1 HX2 HBB
        have HCC := Lib.hid (fun w' S (hr : Rvs w' S (sqC (concS y) (.slice AE nE cE)).toList (sqD (concS y))) => close18_any y (sqC (concS y) (.slice AE nE cE)) S w' hr HOY.out)
        have HZ1 : Hid ((closeS y).fin = true ∧ (closeS y).all = y.all) := ⟨rfl, rfl⟩
        obtain ⟨z, hz⟩ : ∃ z, closeS y = z := ⟨_, rfl⟩
        rw [hz] at HCC HZ1 HCY HLY
        have HZL : Hid (z.all.length ≤ 1000000) := by show _ ≤ _; rw [HZ1.out.2, HYA.out]; exact HSL.out
        clear hz
        go_wp2_with (refine wpList_load_row rfl 28 _ rfl gn rfl 28 (sqC (concS y) (.slice AE nE cE)) (0, 0) _ (F6.out.at (i := 0) rfl) Try.underlying28 rfl (by kernel_rfl) ?_)
        refine (HCC.out _ _ (F6.out.val (i := 0) rfl)).mono ?_
        rintro e wb ⟨cs', rfl, hr, hb⟩
        obtain ⟨vG, rfl, -, h1⟩ := sq_of hr
        have H1 := Lib.hid h1
        have F7 := Lib.hid (F6.out.res hb hr)
        clear h1 hr hb F6 HCC
        have F8 : Hid (Frm w (wb.setRow gn (sqC (concS z) vG)) [(gn, (sqC (concS z) vG), 28), (g1, (sqC (concS x) (.slice AD nD cD)), 28)] [((sqC (concS z) vG).toList, sqD (concS z)), ((sqC (concS y) (.slice AE nE cE)).toList, sqD (concS y)), ((sqC (concS x) (.slice AD nD cD)).toList, sqD (concS x))]) := Lib.hid (F7.out.put (i := 0) rfl _)
        have F9 : Hid (Frm w (wb.setRow gn (sqC (concS z) vG)) [(gn, (sqC (concS z) vG), 28), (g1, (sqC (concS x) (.slice AD nD cD)), 28)] [((sqC (concS z) vG).toList, sqD (concS z))]) := Lib.hid (F8.out.drop 0 rfl (fun p hp => by simp only [List.mem_cons, List.not_mem_nil, or_false] at hp ⊢; rcases hp with rfl; simp))
        go_upto_region 19 with (refine wpList_store_row rfl 28 _ _ rfl gn (sqC (concS z) vG) rfl rfl 28 (sqC (concS y) (.slice AE nE cE)) (F7.out.at (i := 0) rfl) (by kernel_rfl) rfl H1.out ?_)
        generalize wb.setRow gn (sqC (concS z) vG) = wd at F9 ⊢
        clear F7 F8 H1
        have HZF := Lib.hid HZ1.out.1
        clear HZ1
        go_wp2
        go_loopw [123] (fun t123 wr => ∃ (j : Nat) (z : Sx) (a : Value), j ≤ 300 ∧ t123 = .int .i64 (j : Int) ∧ Hid (OkS z) ∧ Hid (z.fin = true) ∧ Hid (z.all.length ≤ 1000000) ∧ Hid (leftS z + j ≤ 257) ∧ Hid (Frm w wr [(gn, (sqC (concS z) a), 28), (g1, (sqC (concS x) (.slice AD nD cD)), 28)] [((sqC (concS z) a).toList, sqD (concS z))])) (fun t123 _ => 300 - (intOf t123).toNat)
        case atStart => exact ⟨0, z, vG, Nat.zero_le _, rfl, HCY, HZF, HZL, HLY, F9⟩
        case round =>
          clear F9 HLY HZL HZF HCY
          obtain ⟨j, z, vG, hj, rfl, HOZ, HZF, HZL, HLJ, F2⟩ := hrel
          have hlj := HLJ.out
          by_cases hjt : j < 300
          · have hjt2 : (j : Int) < 300 := by omega
            rename World => wr
            obtain ⟨pa2, ld, hP, hl2, hsn, -⟩ := next_data HOZ.out 1000 64
            have HCN := Lib.hid (next18_any z (sqC (concS z) vG) _ 1000 64 wr (F2.out.val (i := 0) rfl) HOZ.out ⟨by decide, by decide⟩ ⟨by decide, by decide⟩)
            rw [hP] at HCN
            have HOU := Lib.hid (next_okS HOZ.out 1000 64)
            have HUF : Hid ((nextS z 1000 64).fin = true) := HZF.out
            have HUL : Hid ((nextS z 1000 64).all.length ≤ 1000000) := HZL.out
            have HLD := Lib.hid (fun h => left_done' (x := z) HOZ.out h)
            have HLS := Lib.hid (fun h => left_less' (x := z) HOZ.out h)
            obtain ⟨ok, hok⟩ : ∃ ok, nextO z 1000 64 = ok := ⟨_, rfl⟩
            rw [hok] at HCN HLD HLS
            generalize nextE z 1000 64 = en at HCN
            obtain ⟨u, hu⟩ : ∃ u, nextS z 1000 64 = u := ⟨_, rfl⟩
            rw [hu] at HCN HOU HUF HUL HLS
            clear hP hsn hok hu hl2
            go_wp2_with (refine wpList_load_row rfl 28 _ rfl gn rfl 28 (sqC (concS z) vG) (0, 0) _ (F2.out.at (i := 0) rfl) Try.underlying28 rfl (by kernel_rfl) ?_)
            refine HCN.out.mono ?_
            rintro e wm ⟨cs', ps, rfl, hr, hp, hb⟩
            obtain ⟨vH, rfl, -, h1⟩ := sq_of hr
            obtain ⟨vP2, rfl, hvP, h2⟩ := pc_of hp
            have H1 := Lib.hid h1
            have H2 := Lib.hid h2
            have F3 := Lib.hid (F2.out.res hb hr)
            clear h1 h2 hr hp hb hvP F2 HCN
            have F4 := Lib.hid ((F3.out.alloc #[.int .u32 0, .slice none 0 0, .int .i64 0, .bool false, .bool false, .bool false] 28).alloc #[.int .u32 0, .slice none 0 0] 46)
            rw [show (wm.alloc (.cells #[.int .u32 0, .slice none 0 0, .int .i64 0, .bool false, .bool false, .bool false] 28)).heap.size = wm.heap.size + 1 from by simp] at F4
            have F5 := Lib.hid (F4.out.put (i := 1) rfl (sqC (concS u) vH))
            go_upto_region 22 with (first | (refine wpList_store_row rfl 28 _ _ rfl wm.heap.size (sqC (concS u) vH) rfl rfl 28 #[.int .u32 0, .slice none 0 0, .int .i64 0, .bool false, .bool false, .bool false] (F4.out.at (i := 1) rfl) (by kernel_rfl) rfl H1.out ?_) | (refine wpList_store_row rfl 46 _ _ rfl (wm.heap.size + 1) (#[.int .u32 pa2, vP2] : Array Value) rfl rfl 46 #[.int .u32 0, .slice none 0 0] (F5.out.at (i := 0) rfl) (by kernel_rfl) rfl H2.out ?_) | go_in)
            have F6 := Lib.hid (F5.out.put (i := 0) rfl (#[.int .u32 pa2, vP2] : Array Value))
            obtain ⟨ga, hga⟩ : ∃ g, wm.heap.size = g := ⟨_, rfl⟩
            obtain ⟨gq, hgp⟩ : ∃ g, ga + 1 = g := ⟨_, rfl⟩
            have F7 : Hid (Frm w ((((wm.alloc (.cells #[.int .u32 0, .slice none 0 0, .int .i64 0, .bool false, .bool false, .bool false] 28)).alloc (.cells #[.int .u32 0, .slice none 0 0] 46)).setRow wm.heap.size (sqC (concS u) vH)).setRow (wm.heap.size + 1) (#[.int .u32 pa2, vP2] : Array Value)) [(wm.heap.size + 1, (#[.int .u32 pa2, vP2] : Array Value), 46), (wm.heap.size, (sqC (concS u) vH), 28), (gn, (sqC (concS z) vG), 28), (g1, (sqC (concS x) (.slice AD nD cD)), 28)] [((sqC (concS u) vH).toList, sqD (concS u)), ((sqC (concS z) vG).toList, sqD (concS z))]) := F6
            generalize (((wm.alloc (.cells #[.int .u32 0, .slice none 0 0, .int .i64 0, .bool false, .bool false, .bool false] 28)).alloc (.cells #[.int .u32 0, .slice none 0 0] 46)).setRow wm.heap.size (sqC (concS u) vH)).setRow (wm.heap.size + 1) (#[.int .u32 pa2, vP2] : Array Value) = wk at F7 ⊢
            rw [hga, hgp] at F7 ⊢
            clear F3 F4 F5 F6 hga hgp H2
            cases ok
            · obtain ⟨hse, hfe⟩ := HLD.out rfl
              have F8 : Hid (Frm w wk [(gn, (sqC (concS z) vG), 28), (g1, (sqC (concS x) (.slice AD nD cD)), 28)] [((sqC (concS z) vG).toList, sqD (concS z))]) := Lib.hid (F7.out.drop 2 rfl (fun p hp => by simp only [List.mem_cons, List.not_mem_nil, or_false] at hp ⊢; rcases hp with rfl; simp))
              clear F7 HLD HLS H1 HOU HUF HUL HFL
              obtain ⟨hN, hE, -⟩ := ack_all HOZ.out
              obtain ⟨q, hq⟩ : ∃ q, ackS z (addS (addS z.first z.acked) (flightS z)) = q := ⟨_, rfl⟩
              obtain ⟨hoq, heq, hfq, haq⟩ := ack_end HOZ.out HZF.out hse (hfe.trans HZF.out) hq
              have HWA : Hid (((concS z).una + (flightS z : Int) % 4294967296) % 4294967296 = addS (addS z.first z.acked) (flightS z)) := wrap_add (concS z).una _
              have HAU : Hid (U32 (addS (addS z.first z.acked) (flightS z))) := ⟨addS_ge _ _, addS_le _ _⟩
              have HCA := Lib.hid (fun w' cs S (hr : Rvs w' S cs.toList (sqD (concS z))) => ack18_any z cs S (addS (addS z.first z.acked) (flightS z)) w' hr HOZ.out HAU.out)
              rw [hN, hE, hq] at HCA
              have HFL := Lib.hid (fun w' cs S (hr : Rvs w' S cs.toList (sqD (concS z))) => flight18_any z cs S w' hr HOZ.out)
              have hfs2 := flight_small HOZ.out
              obtain ⟨AT2, hAT⟩ : ∃ AT, addS (addS z.first z.acked) (flightS z) = AT := ⟨_, rfl⟩
              rw [hAT] at HWA HAU HCA
              obtain ⟨fm, hfm⟩ : ∃ fm, flightS z = fm := ⟨_, rfl⟩
              rw [hfm] at HWA HCA HFL hfs2
              have HWC : Hid (IntKind.u32.wrap ((concS z).una + IntKind.u32.wrap (fm : Int)) = AT2) := by show _ = _; rw [IntKind.wrap_u32, IntKind.wrap_u32]; exact HWA.out
              have HOQ := Lib.hid hoq
              have HEQ := Lib.hid heq
              have HFQ := Lib.hid hfq
              have HAQ := Lib.hid haq
              clear hN hE hq hoq heq hfq haq hAT hfm hse hfe HWA HAU
              have HG2 := Lib.hid (F8.out.at (i := 0) rfl)
              have HBIG : Hid (∀ b, wk.heap.size ≤ b → (Nv [gn, g1]) b) := fun b hb hm => by
                have := F8.out.lt b hm
                omega
              have HRI : Hid (Rvs wk (fun b => (Nv [gn, g1]) b ∧ b < wk.heap.size) (sqC (concS z) vG).toList (sqD (concS z))) := rvs_tight' (F8.out.val (i := 0) rfl)
              go_upto_region 25 with (fail)
              apply wp_region_relyV [7, 8, 9, 12, 13] [144, 136, 145, 18] (NewC wk (Nv [gn, g1]) 7 8 9 12 13 144 136 145 18 28 #[.int .u32 0, .slice none 0 0, .int .i64 0, .bool false, .bool false, .bool false] (sqD (concS q)) #[.int .i64 (fm : Int), .int .i64 0]) (RL [Is (.agg (sqC (concS z) vG)), Is _, Is (.int .u32 (concS z).una), Is (.agg (sqC (concS z) vG)), Is (.int .i64 (fm : Int)), Is _, Is (.int .u32 AT2), Any, Any, Any, Is (.int .i64 (fm : Int)), Is (.int .i64 0), Any, Any, Is (.int .i64 (fm : Int)), Is (.int .i64 0)]) [false, false, false, false, false, false, false, false, false, false, false, false, false, false, false, false, false, false, true, true, true, false, false, false, false, false, false, false, false, false, false, false, false, false, false, false, false, false, false, false, false, false, false, false, false, false, false, false, false, false, false, false, false, false, false, false, false, false, false, false, false, false, false, false, false, false, false, false, false, false, false, false, false, false, false, false, false, false, false, false, false, false, false, false, false, false, false, false, false, false, false, false, false, false, false, false, false, false, false, false, false, false, false, false, false, false, false, false, false, false, false, false, false, false, false, false, false, false, false, false, false, false, false, false, false, false, false, false, false, false, false, false, false, false, false, false, true, true, true, true, true, true, true, true, true, true, true, true, false, false, false, false, false, false, false, false, false, false, false, false, false, false]
              · kernel_rfl
              · kernel_rfl
              · kernel_rfl
              · refine ⟨?_, ?_, ?_, ?_, ?_, ?_, ?_, ?_, ?_, ?_, ?_, ?_, ?_, ?_, ?_, ?_, trivial⟩
                · intro L us ev w' hus hC hL hx hnd K hK
                  have e8 : ev (.tmp 8) = _ := hx.base 8 (by kernel_rfl)
                  have HK := Lib.hid hK
                  have HC := Lib.hid hC
                  have HL := Lib.hid hL
                  have HX := Lib.hid hx
                  have HUS := Lib.hid hus
                  have HND := Lib.hid hnd
                  have hc := hx.cst
                  skip
                  clear hx hK hC hL hus hnd
                  have q1 : ev (.tmp 8) = .pointer (some ⟨gn, 0, none⟩) := e8
                  have hld := run_loadVar_row (P := Try.prog) w' gn 28 28 (sqC (concS z) vG) (0, 0) _ ((HC.out.below.block _ (row_lt HG2.out)).trans HG2.out) Try.underlying28 rfl (by kernel_rfl)
                  unfold Run
                  rw [rely_load 28 _ rfl q1 hld]
                  exact HK.out _ _ (.inl ⟨Below.refl _ _, by decide⟩) rfl
                · intro L us ev w' hus hC hL hx hnd K hK
                  have e8 : ev (.tmp 8) = _ := hx.base 8 (by kernel_rfl)
                  have HK := Lib.hid hK
                  have HC := Lib.hid hC
                  have HL := Lib.hid hL
                  have HX := Lib.hid hx
                  have HUS := Lib.hid hus
                  have HND := Lib.hid hnd
                  have hc := hx.cst
                  skip
                  clear hx hK hC hL hus hnd
                  unfold Run
                  simp [execOp, Upon, go_sem, *]
                  exact HK.out _ _ (.inl ⟨Below.refl _ _, by decide⟩) rfl
                · intro L us ev w' hus hC hL hx hnd K hK
                  have e138 := hx.held 1 _ rfl (by kernel_rfl)
                  change ev (.tmp 138) = _ at e138
                  have HK := Lib.hid hK
                  have HC := Lib.hid hC
                  have HL := Lib.hid hL
                  have HX := Lib.hid hx
                  have HUS := Lib.hid hus
                  have HND := Lib.hid hnd
                  have hc := hx.cst
                  skip
                  clear hx hK hC hL hus hnd
                  have q1 : ev (.tmp 138) = .pointer (some ⟨gn, 0, none⟩) := e138
                  have hld := run_loadVar_cell (P := Try.prog) w' ⟨gn, 0, none⟩ 22 (.int .u32 (concS z).una) _ ((cell_of_row _ _ _ _ _ _ ((HC.out.below.block _ (row_lt HG2.out)).trans HG2.out)).trans rfl) Try.underlying22 rfl
                  unfold Run
                  rw [rely_load 22 _ rfl q1 hld]
                  exact HK.out _ _ (.inl ⟨Below.refl _ _, by decide⟩) rfl
                · intro L us ev w' hus hC hL hx hnd K hK
                  have e8 : ev (.tmp 8) = _ := hx.base 8 (by kernel_rfl)
                  have HK := Lib.hid hK
                  have HC := Lib.hid hC
                  have HL := Lib.hid hL
                  have HX := Lib.hid hx
                  have HUS := Lib.hid hus
                  have HND := Lib.hid hnd
                  have hc := hx.cst
                  skip
                  clear hx hK hC hL hus hnd
                  have q1 : ev (.tmp 8) = .pointer (some ⟨gn, 0, none⟩) := e8
                  have hld := run_loadVar_row (P := Try.prog) w' gn 28 28 (sqC (concS z) vG) (0, 0) _ ((HC.out.below.block _ (row_lt HG2.out)).trans HG2.out) Try.underlying28 rfl (by kernel_rfl)
                  unfold Run
                  rw [rely_load 28 _ rfl q1 hld]
                  exact HK.out _ _ (.inl ⟨Below.refl _ _, by decide⟩) rfl
                · intro L us ev w' hus hC hL hx hnd K hK
                  have e140 := hx.held 3 _ rfl (by kernel_rfl)
                  change ev (.tmp 140) = _ at e140
                  have HK := Lib.hid hK
                  have HC := Lib.hid hC
                  have HL := Lib.hid hL
                  have HX := Lib.hid hx
                  have HUS := Lib.hid hus
                  have HND := Lib.hid hnd
                  have hc := hx.cst
                  have hf := hx.fn
                  clear hx hK hC hL hus hnd
                  unfold Run
                  simp [execOp, Upon, go_sem, *]
                  refine (HFL.out w' _ _ (HRI.out.kept HC.out.below (fun _ h => h.2))).mono ?_
                  rintro e w2 ⟨rfl, hb⟩
                  exact ⟨_, rfl, HK.out _ _ (.inl ⟨hb, by decide⟩) rfl⟩
                · intro L us ev w' hus hC hL hx hnd K hK
                  have e141 := hx.held 4 _ rfl (by kernel_rfl)
                  change ev (.tmp 141) = _ at e141
                  have HK := Lib.hid hK
                  have HC := Lib.hid hC
                  have HL := Lib.hid hL
                  have HX := Lib.hid hx
                  have HUS := Lib.hid hus
                  have HND := Lib.hid hnd
                  have hc := hx.cst
                  skip
                  clear hx hK hC hL hus hnd
                  unfold Run
                  simp [execOp, Upon, go_sem, *]
                  exact HK.out _ _ (.inl ⟨Below.refl _ _, by decide⟩) rfl
                · intro L us ev w' hus hC hL hx hnd K hK
                  have e139 := hx.held 2 _ rfl (by kernel_rfl)
                  have e142 := hx.held 5 _ rfl (by kernel_rfl)
                  change ev (.tmp 139) = _ at e139
                  change ev (.tmp 142) = _ at e142
                  have HK := Lib.hid hK
                  have HC := Lib.hid hC
                  have HL := Lib.hid hL
                  have HX := Lib.hid hx
                  have HUS := Lib.hid hus
                  have HND := Lib.hid hnd
                  have hc := hx.cst
                  skip
                  clear hx hK hC hL hus hnd
                  have hwc := HWC.out
                  unfold Run
                  simp [execOp, Upon, go_sem, *]
                  exact HK.out _ _ (.inl ⟨Below.refl _ _, by decide⟩) rfl
                · intro L us ev w' hus hC hL hx hnd K hK
                  have e137 := hx.held 0 _ rfl (by kernel_rfl)
                  have e143 := hx.held 6 _ rfl (by kernel_rfl)
                  change ev (.tmp 137) = _ at e137
                  change ev (.tmp 143) = _ at e143
                  have HK := Lib.hid hK
                  have HC := Lib.hid hC
                  have HL := Lib.hid hL
                  have HX := Lib.hid hx
                  have HUS := Lib.hid hus
                  have HND := Lib.hid hnd
                  have hc := hx.cst
                  have hf := hx.fn
                  clear hx hK hC hL hus hnd
                  unfold Run
                  simp [execOp, Upon, go_sem, *]
                  refine (HCA.out w' _ _ (HRI.out.kept HC.out.below (fun _ h => h.2))).mono ?_
                  rintro e w2 ⟨cs', rfl, hr, hb⟩
                  exact ⟨_, rfl, HK.out _ _ (.inr ⟨HC.out.called HL.out HBIG.out hb (hr.wide fun b hb2 => by
                    rcases hb2 with hb2 | hb2
                    · exact .inl ((fun b hb => hb) b hb2)
                    · exact .inr hb2) (by decide) (by decide) (by decide) (by decide) (by decide), fun j hj hlj u hr => rl_mono (Rs := [Is (.agg (sqC (concS z) vG)), Is _, Is (.int .u32 (concS z).una), Is (.agg (sqC (concS z) vG)), Is (.int .i64 (fm : Int)), Is _, Is (.int .u32 AT2), Any, Any, Any, Is (.int .i64 (fm : Int)), Is (.int .i64 0), Any, Any, Is (.int .i64 (fm : Int)), Is (.int .i64 0)]) ⟨is_mono _, is_mono _, is_mono _, is_mono _, is_mono _, is_mono _, is_mono _, any_mono, any_mono, any_mono, is_mono _, is_mono _, any_mono, any_mono, is_mono _, is_mono _, trivial⟩ j u _ _ (hb) hr⟩) trivial⟩
                · intro L us ev w' hus hC hL hx hnd K hK
                  have e144 := hx.held 7 _ rfl (by kernel_rfl)
                  change (Any : Pred) (ev (.tmp 144)) w' at e144
                  have HK := Lib.hid hK
                  have HC := Lib.hid hC
                  have HL := Lib.hid hL
                  have HX := Lib.hid hx
                  have HUS := Lib.hid hus
                  have HND := Lib.hid hnd
                  have hc := hx.cst
                  skip
                  clear hx hK hC hL hus hnd
                  have hc9 : L 7 = true := HND.out 7 (by kernel_rfl)
                  have q1 : ev (.tmp 144) = us 144 := HUS.out 144
                  unfold Run
                  simp [execOp, Upon, go_sem]
                  rw [q1]
                  exact HK.out _ _ (.inr ⟨HC.out.moved HL.out hc9 (by decide) (by decide) (by decide) (by decide) (by decide) (by decide), fun j hj hlj u hr => rl_mono (Rs := [Is (.agg (sqC (concS z) vG)), Is _, Is (.int .u32 (concS z).una), Is (.agg (sqC (concS z) vG)), Is (.int .i64 (fm : Int)), Is _, Is (.int .u32 AT2), Any, Any, Any, Is (.int .i64 (fm : Int)), Is (.int .i64 0), Any, Any, Is (.int .i64 (fm : Int)), Is (.int .i64 0)]) ⟨is_mono _, is_mono _, is_mono _, is_mono _, is_mono _, is_mono _, is_mono _, any_mono, any_mono, any_mono, is_mono _, is_mono _, any_mono, any_mono, is_mono _, is_mono _, trivial⟩ j u _ _ (Below.refl _ _) hr⟩) trivial
                · intro L us ev w' hus hC hL hx hnd K hK
                  have e136 := hx.held 8 _ rfl (by kernel_rfl)
                  change (Any : Pred) (ev (.tmp 136)) w' at e136
                  have HK := Lib.hid hK
                  have HC := Lib.hid hC
                  have HL := Lib.hid hL
                  have HX := Lib.hid hx
                  have HUS := Lib.hid hus
                  have HND := Lib.hid hnd
                  have hc := hx.cst
                  skip
                  clear hx hK hC hL hus hnd
                  have hm9 : L 8 = true := HND.out 8 (by kernel_rfl)
                  obtain ⟨hc9, hm8⟩ := HC.out.move hm9
                  obtain ⟨C9, hC9, -⟩ := HC.out.call hc9
                  have q1 : ev (.tmp 136) = .tuple (#[.agg C9] ++ #[.int .i64 (fm : Int), .int .i64 0]) := (HUS.out 136).trans (hm8.trans hC9)
                  unfold Run
                  simp [execOp, Upon, go_sem, q1]
                  exact HK.out _ _ (.inr ⟨HC.out.taken hm9 hC9 (by decide) (by decide) (by decide) (by decide) (by decide) (by decide) (by decide), fun j hj hlj u hr => rl_mono (Rs := [Is (.agg (sqC (concS z) vG)), Is _, Is (.int .u32 (concS z).una), Is (.agg (sqC (concS z) vG)), Is (.int .i64 (fm : Int)), Is _, Is (.int .u32 AT2), Any, Any, Any, Is (.int .i64 (fm : Int)), Is (.int .i64 0), Any, Any, Is (.int .i64 (fm : Int)), Is (.int .i64 0)]) ⟨is_mono _, is_mono _, is_mono _, is_mono _, is_mono _, is_mono _, is_mono _, any_mono, any_mono, any_mono, is_mono _, is_mono _, any_mono, any_mono, is_mono _, is_mono _, trivial⟩ j u _ _ (Below.refl _ _) hr⟩) trivial
                · intro L us ev w' hus hC hL hx hnd K hK
                  have e136 := hx.held 8 _ rfl (by kernel_rfl)
                  change (Any : Pred) (ev (.tmp 136)) w' at e136
                  have HK := Lib.hid hK
                  have HC := Lib.hid hC
                  have HL := Lib.hid hL
                  have HX := Lib.hid hx
                  have HUS := Lib.hid hus
                  have HND := Lib.hid hnd
                  have hc := hx.cst
                  skip
                  clear hx hK hC hL hus hnd
                  have hm9 : L 8 = true := HND.out 8 (by kernel_rfl)
                  obtain ⟨hc9, hm8⟩ := HC.out.move hm9
                  obtain ⟨C9, hC9, -⟩ := HC.out.call hc9
                  have q1 : ev (.tmp 136) = .tuple (#[.agg C9] ++ #[.int .i64 (fm : Int), .int .i64 0]) := (HUS.out 136).trans (hm8.trans hC9)
                  unfold Run
                  simp [execOp, Upon, go_sem, q1]
                  exact HK.out _ _ (.inl ⟨Below.refl _ _, by decide⟩) rfl
                · intro L us ev w' hus hC hL hx hnd K hK
                  have e136 := hx.held 8 _ rfl (by kernel_rfl)
                  change (Any : Pred) (ev (.tmp 136)) w' at e136
                  have HK := Lib.hid hK
                  have HC := Lib.hid hC
                  have HL := Lib.hid hL
                  have HX := Lib.hid hx
                  have HUS := Lib.hid hus
                  have HND := Lib.hid hnd
                  have hc := hx.cst
                  skip
                  clear hx hK hC hL hus hnd
                  have hm9 : L 8 = true := HND.out 8 (by kernel_rfl)
                  obtain ⟨hc9, hm8⟩ := HC.out.move hm9
                  obtain ⟨C9, hC9, -⟩ := HC.out.call hc9
                  have q1 : ev (.tmp 136) = .tuple (#[.agg C9] ++ #[.int .i64 (fm : Int), .int .i64 0]) := (HUS.out 136).trans (hm8.trans hC9)
                  unfold Run
                  simp [execOp, Upon, go_sem, q1]
                  exact HK.out _ _ (.inl ⟨Below.refl _ _, by decide⟩) rfl
                · intro L us ev w' hus hC hL hx hnd K hK
                  have HK := Lib.hid hK
                  have HC := Lib.hid hC
                  have HL := Lib.hid hL
                  have HX := Lib.hid hx
                  have HUS := Lib.hid hus
                  have HND := Lib.hid hnd
                  have hc := hx.cst
                  skip
                  clear hx hK hC hL hus hnd
                  have nst : L 13 = false := Bool.eq_false_iff.2 fun h => by have h9 := HX.out.closed 13 _ 12 rfl h (by kernel_rfl); rw [HL.out] at h9; cases h9
                  unfold Run
                  simp [execOp, Upon, go_sem]
                  exact HK.out _ _ (.inr ⟨HC.out.made HL.out nst (by decide) (by decide) (by decide) (by decide) (by decide) (by decide) (by decide), fun j hj hlj u hr => rl_mono (Rs := [Is (.agg (sqC (concS z) vG)), Is _, Is (.int .u32 (concS z).una), Is (.agg (sqC (concS z) vG)), Is (.int .i64 (fm : Int)), Is _, Is (.int .u32 AT2), Any, Any, Any, Is (.int .i64 (fm : Int)), Is (.int .i64 0), Any, Any, Is (.int .i64 (fm : Int)), Is (.int .i64 0)]) ⟨is_mono _, is_mono _, is_mono _, is_mono _, is_mono _, is_mono _, is_mono _, any_mono, any_mono, any_mono, is_mono _, is_mono _, any_mono, any_mono, is_mono _, is_mono _, trivial⟩ j u _ _ ((Below.refl _ _).alloc (Nat.le_refl _) _) hr⟩) trivial
                · intro L us ev w' hus hC hL hx hnd K hK
                  have e18 := hx.held 12 _ rfl (by kernel_rfl)
                  have e145 := hx.held 9 _ rfl (by kernel_rfl)
                  change (Any : Pred) (ev (.tmp 18)) w' at e18
                  change (Any : Pred) (ev (.tmp 145)) w' at e145
                  have HK := Lib.hid hK
                  have HC := Lib.hid hC
                  have HL := Lib.hid hL
                  have HX := Lib.hid hx
                  have HUS := Lib.hid hus
                  have HND := Lib.hid hnd
                  have hc := hx.cst
                  skip
                  clear hx hK hC hL hus hnd
                  have ha9 : L 12 = true := HND.out 12 (by kernel_rfl)
                  have he9 : L 9 = true := HND.out 9 (by kernel_rfl)
                  obtain ⟨g9, C9, hg9, hC9, hs9, h19, hh9, -, hn9⟩ := HC.out.laid (v := undef) HL.out ha9 he9 (by rfl) (by decide) (by decide) (by decide) (by decide)
                  have qp : ev (.tmp 18) = .pointer (some ⟨g9, 0, none⟩) := (HUS.out 18).trans hg9
                  have qv : ev (.tmp 145) = .agg C9 := (HUS.out 145).trans hC9
                  have hst := run_storeVar_row (P := Try.prog) w' g9 28 28 #[.int .u32 0, .slice none 0 0, .int .i64 0, .bool false, .bool false, .bool false] C9 hh9 (by rw [hs9]; kernel_rfl) hs9.symm h19
                  unfold Run
                  rw [rely_store 28 _ _ rfl qp qv hst]
                  refine HK.out _ _ (.inr ⟨hn9, fun j hj hlj u hr => ?_⟩) trivial
                  rcases j with _ | _ | _ | _ | _ | _ | _ | _ | _ | _ | _ | _ | _ | _ | _ | _ | j
                  · exact hr
                  · exact hr
                  · exact hr
                  · exact hr
                  · exact hr
                  · exact hr
                  · exact hr
                  · exact trivial
                  · exact trivial
                  · exact trivial
                  · exact hr
                  · exact hr
                  · exact trivial
                  · exact absurd rfl hj
                  · exact hr
                  · exact hr
                  · exact trivial
                · intro L us ev w' hus hC hL hx hnd K hK
                  have e146 := hx.held 10 _ rfl (by kernel_rfl)
                  change ev (.tmp 146) = _ at e146
                  have HK := Lib.hid hK
                  have HC := Lib.hid hC
                  have HL := Lib.hid hL
                  have HX := Lib.hid hx
                  have HUS := Lib.hid hus
                  have HND := Lib.hid hnd
                  have hc := hx.cst
                  skip
                  clear hx hK hC hL hus hnd
                  unfold Run
                  simp [execOp, Upon, go_sem, *]
                  exact HK.out _ _ (.inl ⟨Below.refl _ _, by decide⟩) rfl
                · intro L us ev w' hus hC hL hx hnd K hK
                  have e147 := hx.held 11 _ rfl (by kernel_rfl)
                  change ev (.tmp 147) = _ at e147
                  have HK := Lib.hid hK
                  have HC := Lib.hid hC
                  have HL := Lib.hid hL
                  have HX := Lib.hid hx
                  have HUS := Lib.hid hus
                  have HND := Lib.hid hnd
                  have hc := hx.cst
                  skip
                  clear hx hK hC hL hus hnd
                  unfold Run
                  simp [execOp, Upon, go_sem, *]
                  exact HK.out _ _ (.inl ⟨Below.refl _ _, by decide⟩) rfl
              · exact rl_mono ⟨is_mono _, is_mono _, is_mono _, is_mono _, is_mono _, is_mono _, is_mono _, any_mono, any_mono, any_mono, is_mono _, is_mono _, any_mono, any_mono, is_mono _, is_mono _, trivial⟩
              · exact fun L L' us us' w' h1 h2 hg => hg.agree (h1 7 (by simp)) (h1 8 (by simp)) (h1 9 (by simp)) (h1 12 (by simp)) (h1 13 (by simp)) (h2 144 (by simp)) (h2 136 (by simp)) (h2 145 (by simp)) (h2 18 (by simp))
              · exact fun L us w' w'' hb hg => hg.under hb
              · kernel_rfl
              · exact NewC.start
              · simp
              intro us wr hG hH
              obtain ⟨-, -, -, -, -, -, h6, -, -, -, -, -, -, -, h14, h15, -⟩ := hH
              simp only [fillM]
              obtain ⟨hB9, gz, C9, hgn, hcn, hmn, hen, hgb, E, hvn, hse, hrn⟩ := NewC.done hG
              rw [hgn]
              have HVN := Lib.hid hvn
              have HSE := Lib.hid hse
              have HRN := Lib.hid hrn
              have HGB := Lib.hid hgb
              have HB9 := Lib.hid hB9
              clear hB9 hvn hse hrn hgb hcn hmn hen hG
              change us 143 = _ at h6
              rw [h6]
              clear h6
              change us 19 = _ at h14
              rw [h14]
              clear h14
              change us 20 = _ at h15
              rw [h15]
              clear h15
              generalize us 137 = v137
              generalize us 138 = v138
              generalize us 139 = v139
              generalize us 140 = v140
              generalize us 141 = v141
              generalize us 142 = v142
              generalize us 144 = v144
              generalize us 136 = v136
              generalize us 145 = v145
              generalize us 146 = v146
              generalize us 147 = v147
              clear hgn
              obtain ⟨vQ, rfl, -, -⟩ := sq_of HRN.out
              have F9 : Hid (Frm w wr [(gz, (sqC (concS q) vQ), 28), (gn, (sqC (concS z) vG), 28), (g1, (sqC (concS x) (.slice AD nD cD)), 28)] [((sqC (concS q) vQ).toList, sqD (concS q)), ((sqC (concS z) vG).toList, sqD (concS z))]) := Lib.hid ((F8.out.have' HB9.out HGB.out HVN.out).add (HRN.out.wide fun b hb hm => by
                have h2 : b ∉ [gn, g1] := hb.1
                have h3 : b ≠ gz := hb.2
                simp only [List.map_cons, List.map_nil, List.mem_cons, List.not_mem_nil, or_false] at hm h2
                rcases hm with hm | hm
                · exact h3 hm
                · exact h2 hm))
              clear F8 HB9 HGB HVN HRN HSE HRI HBIG HG2 HCA HWC HFL
              have six : ∀ {w : World} {b : Nat} {v0 v1 v2 v3 v4 v5 : Value} {t : TypeId} {fr : Nat × Nat}, w.heap[b]? = some (.cells #[v0, v1, v2, v3, v4, v5] t fr) → w.cell? ⟨b, 0, none⟩ = some v0 ∧ w.cell? ⟨b, 1, none⟩ = some v1 ∧ w.cell? ⟨b, 2, none⟩ = some v2 ∧ w.cell? ⟨b, 3, none⟩ = some v3 ∧ w.cell? ⟨b, 4, none⟩ = some v4 ∧ w.cell? ⟨b, 5, none⟩ = some v5 := fun h => by
                refine ⟨?_, ?_, ?_, ?_, ?_, ?_⟩ <;> (rw [cell_of_row _ _ _ _ _ _ h]; rfl)
              have HEM : Hid (∀ w9, Below wr.heap.size wr w9 → Calls Try.prog 18 #[.agg #[.int .u32 (concS q).una, vQ, .int .i64 ((concS q).sent : Int), .bool (concS q).fin, .bool (concS q).fsent, .bool (concS q).facked]] w9 fun e w' => e = .returned (.bool true) ∧ Below w9.heap.size w9 w') := fun w9 hb => by
                have h7 := empty18_any q (sqC (concS q) vQ) _ w9 (rvs_call (F9.out.val (i := 0) rfl) hb) HOQ.out
                rw [HEQ.out] at h7
                exact h7
              have HRI : Hid (∀ w9, Below wr.heap.size wr w9 → Calls Try.prog 13 #[.agg #[.int .u32 (concS q).una, vQ, .int .i64 ((concS q).sent : Int), .bool (concS q).fin, .bool (concS q).fsent, .bool (concS q).facked]] w9 fun e w' => e = .returned (.bool true) ∧ Below w9.heap.size w9 w') := fun w9 hb => by
                obtain ⟨v1, e, hr1, -⟩ := sq_of (F9.out.val (i := 0) rfl)
                have e2 : v1 = vQ := by
                  injection e with e
                  injection e with _ e
                  injection e with e _
                  exact e.symm
                subst e2
                have h5 := HOQ.out.sent
                have h6 : q.all.length ≤ 1000000 := by rw [HAQ.out]; exact HZL.out
                have h7 := right18_any (concS q).una ((concS q).sent : Int) v1 (concS q).data (concS q).fin (concS q).fsent (concS q).facked _ w9 ((rv_lt hr1).kept hb (fun _ h => h.2)) (by unfold I64; show _ ∧ ((q.sent - fromS q : Nat) : Int) ≤ _; omega) (by show (q.all.drop (fromS q)).length ≤ _; rw [List.length_drop]; omega)
                rw [conc_right HOQ.out] at h7
                exact h7
              obtain ⟨c0, c1, c2, c3, c4, c5⟩ := six (F9.out.at (i := 0) rfl)
              have F10 : Hid (∀ w9, Below wr.heap.size wr w9 → Frm w w9 [(gz, (sqC (concS q) vQ), 28), (gn, (sqC (concS z) vG), 28), (g1, (sqC (concS x) (.slice AD nD cD)), 28)] [((sqC (concS q) vQ).toList, sqD (concS q)), ((sqC (concS z) vG).toList, sqD (concS z))]) := fun w9 hb => F9.out.call hb
              have HSX : Hid (∀ w9, Below wr.heap.size wr w9 → w9.cell? ⟨gz, 0, none⟩ = some (.int .u32 (concS q).una) ∧ w9.cell? ⟨gz, 1, none⟩ = some vQ ∧ w9.cell? ⟨gz, 2, none⟩ = some (.int .i64 ((concS q).sent : Int)) ∧ w9.cell? ⟨gz, 3, none⟩ = some (.bool (concS q).fin) ∧ w9.cell? ⟨gz, 4, none⟩ = some (.bool (concS q).fsent) ∧ w9.cell? ⟨gz, 5, none⟩ = some (.bool (concS q).facked)) := fun w9 hb => six ((F10.out w9 hb).at (i := 0) rfl)
              have HBF : Hid (∀ w9, Below wr.heap.size wr w9 → Below w.heap.size w w9) := fun w9 hb => (F10.out w9 hb).below
              clear six F9 F10 HOQ HEQ HAQ
              rw [HFQ.out] at HEM HRI HSX c5
              generalize (concS q).una = u0 at HEM HRI HSX c0
              generalize ((concS q).sent : Int) = u2 at HEM HRI HSX c2
              generalize (concS q).fin = u3 at HEM HRI HSX c3
              generalize (concS q).fsent = u4 at HEM HRI HSX c4
              go_wp2_with fail
              refine (HEM.out _ (Below.refl _ _)).mono ?_
              rintro e w8 ⟨rfl, hb⟩
              have HB8 := Lib.hid hb
              clear hb c0 c1 c2 c3 c4 c5
              obtain ⟨c0, c1, c2, c3, c4, c5⟩ := HSX.out w8 HB8.out
              go_wp2_with fail
              refine (HRI.out _ HB8.out).mono ?_
              rintro e w9 ⟨rfl, hb⟩
              have HBG := Lib.hid (HBF.out _ (HB8.out.trans (hb.mono HB8.out.size)))
              clear hb
              go_wp2
              go_ret
              exact ⟨rfl, HBG.out⟩
            · have hls := HLS.out rfl
              have HLU : Hid (leftS u + (j + 1) ≤ 257) := by show _ ≤ _; omega
              clear HLD HLS hls
              go_upto_region 24 with (first | (refine wpList_load_row rfl 28 _ rfl ga rfl 28 (sqC (concS u) vH) (0, 0) _ (F7.out.at (i := 1) rfl) Try.underlying28 rfl (by kernel_rfl) ?_) | (refine wpList_store_row rfl 28 _ _ rfl gn (sqC (concS u) vH) rfl rfl 28 (sqC (concS z) vG) (F7.out.at (i := 2) rfl) (by kernel_rfl) rfl H1.out ?_) | go_in)
              have F8 : Hid (Frm w (wk.setRow gn (sqC (concS u) vH)) [(gq, (#[.int .u32 pa2, vP2] : Array Value), 46), (ga, (sqC (concS u) vH), 28), (gn, (sqC (concS u) vH), 28), (g1, (sqC (concS x) (.slice AD nD cD)), 28)] [((sqC (concS u) vH).toList, sqD (concS u)), ((sqC (concS z) vG).toList, sqD (concS z))]) := Lib.hid (F7.out.put (i := 2) rfl _)
              have F9 : Hid (Frm w (wk.setRow gn (sqC (concS u) vH)) [(gn, (sqC (concS u) vH), 28), (g1, (sqC (concS x) (.slice AD nD cD)), 28)] [((sqC (concS u) vH).toList, sqD (concS u))]) := Lib.hid (F8.out.drop 2 rfl (fun p hp => by simp only [List.mem_cons, List.not_mem_nil, or_false] at hp ⊢; rcases hp with rfl; simp))
              generalize wk.setRow gn (sqC (concS u) vH) = wo at F9 ⊢
              clear F7 F8 H1
              go_wp2
              go_roundw
              case rel => exact ⟨j + 1, u, vH, by omega, by go_num, HOU, HUF, HUL, HLU, F9⟩
              case measure => simp [intOf]; omega
          · omega
end Go.Proofs.Ytebflcpoecolbaa
