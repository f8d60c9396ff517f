/-
  The law RecvqDone: every number, every row of bytes, every op.
-/
import Derived.Test.YtdgfhcojmfgimaaRlv
import Derived.Test.YtdgfhcojmfgimaaRqv
namespace Go.Proofs.Ytdgfhcojmfgimaa
open Go.RowKit

theorem six_arr {w : World} {b : Nat} {v0 v1 v2 v3 v4 v5 : Value} {t : TypeId} {fr : Nat × Nat} (h : w.heap[b]? = some (.cells #[v0, v1, v2, v3, v4, v5] t fr)) :
    w.cell? ⟨b, 0, none⟩ = some v0 ∧ w.cell? ⟨b, 1, none⟩ = some v1 ∧ w.cell? ⟨b, 2, none⟩ = some v2 ∧ w.cell? ⟨b, 3, none⟩ = some v3 ∧ w.cell? ⟨b, 4, none⟩ = some v4 ∧ w.cell? ⟨b, 5, none⟩ = some v5 := six_cells' h
set_option maxRecDepth 100000 in
set_option maxHeartbeats 1500000 in
theorem done_any (n : Int) (A B : Option Addr) (m c k eb : Nat) (D0 D : List UInt8) (off rd : Int) (fe : Bool) (w : World) (hn : U32 n) (hv : Rv w (Lt w.heap.size) (.slice A m c) (bytesD D0)) (hD0 : D0.length = m) (hb : Rv w (Lt w.heap.size) (.slice B k eb) (bytesD D)) (hD : D.length = k) :
    Calls Try.prog 7 #[.int .u32 n, .slice A m c, .agg #[.int .i64 off, .slice B k eb, .bool fe, .int .i64 rd]] w fun e w' => e = .returned (.bool true) ∧ Below w.heap.size w w' := by
  have HNN := Lib.hid hn
  have HDM := Lib.hid hD0
  have HDK := Lib.hid hD
  have F0 := Lib.hid ((Frm.start (Below.refl w.heap.size w)).alloc #[.int .i64 off, .slice B k eb, .bool fe, .int .i64 rd] 36)
  have F1 := Lib.hid ((F0.out.add (F0.out.old (rvs_cons.2 ⟨hb, rvs_nil⟩))).add (F0.out.old (rvs_cons.2 ⟨hv, rvs_nil⟩)))
  clear F0 hn hv hD0 hb hD
  go_enter Try.func7, Try.ntmps7
  go_upto_region 1 with (fail)
  obtain ⟨go, hgo⟩ : ∃ go, w.heap.size = go := ⟨_, rfl⟩
  obtain ⟨w0, hw0⟩ : ∃ w0, w.alloc (.cells #[.int .i64 off, .slice B k eb, .bool fe, .int .i64 rd] 36) = w0 := ⟨_, rfl⟩
  change Code.wp _ _ _ _ (w.alloc (.cells #[.int .i64 off, .slice B k eb, .bool fe, .int .i64 rd] 36))
  rw [hw0, hgo] at F1
  rw [hw0, hgo]
  clear hw0 hgo
  go_wp2_with fail
  refine (lives_any _).mono ?_
  rintro e w1 ⟨rfl, hb1⟩
  have F2 := Lib.hid (F1.out.call hb1)
  clear F1 hb1
  obtain ⟨o0, o1, o2, o3⟩ := four_at (F2.out.at (i := 0) rfl)
  by_cases hm : 256 < m
  · have hmb : (256 : Int) < (m : Int) := by omega
    go_wp2_with fail
    refine (lives_any _).mono ?_
    rintro e w3 ⟨rfl, hb3⟩
    have HB3 := Lib.hid (F2.out.call hb3).below
    clear hb3 F2 o0 o1 o2 o3
    go_wp2
    go_ret
    exact ⟨rfl, HB3.out⟩
  have hmb : ¬ (256 : Int) < (m : Int) := by omega
  by_cases hk : 400 < k
  · have hkb : (400 : Int) < (k : Int) := by omega
    go_wp2_with fail
    refine (lives_any _).mono ?_
    rintro e w3 ⟨rfl, hb3⟩
    have HB3 := Lib.hid (F2.out.call hb3).below
    clear hb3 F2 o0 o1 o2 o3
    go_wp2
    go_ret
    exact ⟨rfl, HB3.out⟩
  have hkb : ¬ (400 : Int) < (k : Int) := by omega
  have HOK0 := Lib.hid (new_ok HNN.out)
  obtain ⟨hy1, hy2, hy3⟩ := accept_whole HNN.out D0 (by rw [HDM.out]; omega)
  have HOY := Lib.hid (accept_ok HOK0.out n D0 true)
  have hD1 : D0.length ≤ 1000 := by rw [HDM.out]; omega
  have hD2 : D.length ≤ 1000 := by rw [HDK.out]; omega
  have HCA := Lib.hid (fun w' cs S v S2 (hr : Rvs w' S cs.toList (rqD (conc (newX n)))) (hv : Rv w' S2 v (bytesD D0)) => accept_any (newX n) cs S S2 n v D0 true w' hr HOK0.out HNN.out hv hD1)
  have HNW := Lib.hid (fun w' => new_any n w' HNN.out)
  obtain ⟨X, hX⟩ : ∃ X, newX n = X := ⟨_, rfl⟩
  rw [hX] at HCA HNW HOY hy1 hy2 hy3
  obtain ⟨y, hy⟩ : ∃ y, acceptX X n D0 true = y := ⟨_, rfl⟩
  rw [hy] at HCA HOY hy1 hy2 hy3
  have HSM : ∀ a, acceptX y a D fe = y := fun a => by unfold acceptX; rw [if_pos hy1]
  have HCB := Lib.hid (fun w' cs S v S2 a (hr : Rvs w' S cs.toList (rqD (conc y))) (hv : Rv w' S2 v (bytesD D)) (ha : U32 a) => accept_any y cs S S2 a v D fe w' hr HOY.out ha hv hD2)
  simp only [HSM] at HCB
  have HAH : Hid ((conc y).ahead = []) := by
    show ((runsL 0 y.got).map _) = []
    rw [runs_none y.got 0 hy3]
    rfl
  have HDT : Hid ((conc y).data = D0) := hy2
  have HDN : Hid ((conc y).done = true) := hy1
  have HCU : cutX y 1000 = m := by unfold cutX; rw [hy2, HDM.out]; omega
  obtain ⟨z, hz⟩ : ∃ z, readX y 1000 = z := ⟨_, rfl⟩
  have HOZ : Hid (OkX z) := by rw [← hz]; exact read_ok HOY.out 1000
  have hzd : z.data = [] := by
    rw [← hz]
    show y.data.drop _ = []
    rw [HCU, hy2, ← HDM.out, List.drop_length]
  have HZD : Hid ((conc z).data = []) := hzd
  have HZN : Hid ((conc z).next = (conc y).next ∧ (conc z).known = (conc y).known ∧ (conc z).fin = (conc y).fin ∧ (conc z).done = true ∧ (conc z).ahead = []) := by rw [← hz]; exact ⟨rfl, rfl, rfl, hy1, HAH.out⟩
  have HZW : Hid (winX z = 256) := by show _ = _; unfold winX; rw [hzd]; rfl
  have HZE : Hid ((z.done && z.data.isEmpty) = true) := by show _ = _; rw [hzd, ← hz]; show (y.done && _) = true; rw [hy1]; rfl
  have HRE := Lib.hid (fun w' cs S (hr : Rvs w' S cs.toList (rqD (conc y))) => read_any y cs S 1000 w' hr HOY.out ⟨by decide, by decide⟩)
  rw [hz, HCU, hy2, List.take_of_length_le (Nat.le_of_eq HDM.out)] at HRE
  have HYE : Hid ((y.done && y.data.isEmpty) = D0.isEmpty) := by show _ = _; rw [hy1, hy2]; rfl
  clear hX hy hy1 hy2 hy3 HSM HCU hz hzd hD1 hD2 HOK0
  clear o0 o1 o2 o3
  obtain ⟨o0, o1, o2, o3⟩ := four_at (F2.out.at (i := 0) rfl)
  go_wp2_with fail
  refine (HNW.out _).mono ?_
  rintro e w3 ⟨cs1, rfl, hr, hb⟩
  have F3 := Lib.hid (F2.out.new hb hr)
  clear hr hb F2 o0 o1 o2 o3
  go_wp2_with fail
  refine (HCA.out _ _ _ _ _ (F3.out.val (i := 0) rfl) (rvs_cons.1 (F3.out.val (i := 1) rfl)).1).mono ?_
  rintro e w4 ⟨cs2, rfl, hr, hb⟩
  obtain ⟨vD1, vA1, rfl, h1⟩ := rq_of hr
  have H1 := Lib.hid h1
  have F4 := Lib.hid (F3.out.res hb hr)
  clear hr hb h1 F3 HCA HNW
  go_upto_region 4 with (first | (refine wpList_store_new rfl 29 _ _ rfl w4 #[.int .u32 0, .slice none 0 0, .slice none 0 0, .bool false, .int .u32 0, .bool false] (rqC (conc y) vD1 vA1) rfl rfl (by kernel_rfl) rfl H1.out ?_) | go_in)
  have F5 : Hid (Frm w (w4.alloc (.cells (rqC (conc y) vD1 vA1) 29)) [(w4.heap.size, (rqC (conc y) vD1 vA1), 29), (go, #[.int .i64 off, .slice B k eb, .bool fe, .int .i64 rd], 36)] [((rqC (conc y) vD1 vA1).toList, rqD (conc y)), ([.slice A m c], [bytesD D0]), ([.slice B k eb], [bytesD D])]) := Lib.hid ((F4.out.alloc _ _).drop 0 rfl (fun p hp => by simp only [List.mem_cons, List.not_mem_nil, or_false] at hp ⊢; rcases hp with rfl | rfl | rfl <;> simp))
  obtain ⟨g1, hg⟩ : ∃ g1, w4.heap.size = g1 := ⟨_, rfl⟩
  rw [hg] at F5 ⊢
  generalize w4.alloc (.cells (rqC (conc y) vD1 vA1) 29) = w5 at F5 ⊢
  clear F4 hg H1
  obtain ⟨o0, o1, o2, o3⟩ := four_at (F5.out.at (i := 1) rfl)
  obtain ⟨x0, -⟩ := rq_cells (F5.out.at (i := 0) rfl)
  go_wp2_with (refine wpList_load_row rfl 29 _ rfl g1 rfl 29 (rqC (conc y) vD1 vA1) (0, 0) _ (F5.out.at (i := 0) rfl) Try.underlying29 rfl (by kernel_rfl) ?_)
  refine (HCB.out _ _ _ _ _ _ (F5.out.val (i := 0) rfl) (rvs_cons.1 (F5.out.val (i := 2) rfl)).1 ⟨by omega, by omega⟩).mono ?_
  rintro e w6 ⟨cs2, rfl, hr, hb⟩
  obtain ⟨vD2, vA2, rfl, h1⟩ := rq_of hr
  have H1 := Lib.hid h1
  have F6 := Lib.hid (F5.out.res hb hr)
  clear hr hb h1 F5 HCB o0 o1 o2 o3 x0
  go_upto_region 5 with (first | (refine wpList_store_new rfl 29 _ _ rfl w6 #[.int .u32 0, .slice none 0 0, .slice none 0 0, .bool false, .int .u32 0, .bool false] (rqC (conc y) vD2 vA2) rfl rfl (by kernel_rfl) rfl H1.out ?_) | go_in)
  have F7 : Hid (Frm w (w6.alloc (.cells (rqC (conc y) vD2 vA2) 29)) [(w6.heap.size, (rqC (conc y) vD2 vA2), 29), (g1, (rqC (conc y) vD1 vA1), 29), (go, #[.int .i64 off, .slice B k eb, .bool fe, .int .i64 rd], 36)] [((rqC (conc y) vD2 vA2).toList, rqD (conc y)), ((rqC (conc y) vD1 vA1).toList, rqD (conc y)), ([.slice A m c], [bytesD D0]), ([.slice B k eb], [bytesD D])]) := Lib.hid (F6.out.alloc _ _)
  obtain ⟨g2, hg⟩ : ∃ g2, w6.heap.size = g2 := ⟨_, rfl⟩
  rw [hg] at F7 ⊢
  generalize w6.alloc (.cells (rqC (conc y) vD2 vA2) 29) = w7 at F7 ⊢
  clear F6 hg H1
  obtain ⟨D2, e2, h1, -⟩ := rv_bytes.1 (rq_data (F7.out.val (i := 0) rfl))
  rw [HDT.out, HDM.out] at h1
  subst h1
  obtain ⟨P2, f2, h1, -⟩ := pc_elem (rq_ahead (F7.out.val (i := 0) rfl))
  rw [HAH.out] at h1
  subst h1
  have HV2 := Lib.hid (conv_bytes (rq_data (F7.out.val (i := 0) rfl)) w7 (Below.refl _ _))
  rw [HDT.out] at HV2
  obtain ⟨D1, e1, h1, -⟩ := rv_bytes.1 (rq_data (F7.out.val (i := 1) rfl))
  rw [HDT.out, HDM.out] at h1
  subst h1
  obtain ⟨P1, f1, h1, -⟩ := pc_elem (rq_ahead (F7.out.val (i := 1) rfl))
  rw [HAH.out] at h1
  subst h1
  have HV1 := Lib.hid (conv_bytes (rq_data (F7.out.val (i := 1) rfl)) w7 (Below.refl _ _))
  rw [HDT.out] at HV1
  have HV0 := Lib.hid (conv_bytes (rvs_cons.1 (F7.out.val (i := 2) rfl)).1 w7 (Below.refl _ _))
  have HEN := Lib.hid (ended_any y _ _ w7 (F7.out.val (i := 1) rfl) HOY.out)
  rw [HYE.out] at HEN
  obtain ⟨nx, hnx⟩ : ∃ nx, (conc y).next = nx := ⟨_, rfl⟩
  obtain ⟨kn, hkn⟩ : ∃ kn, (conc y).known = kn := ⟨_, rfl⟩
  obtain ⟨fi, hfi⟩ : ∃ fi, (conc y).fin = fi := ⟨_, rfl⟩
  have HE1 : Hid ((rqC (conc y) (.slice D1 m e1) (.slice P1 0 f1)) = #[.int .u32 nx, .slice D1 m e1, .slice P1 0 f1, .bool kn, .int .u32 fi, .bool true]) := by show _ = _; unfold rqC; rw [hnx, hkn, hfi, HDN.out]
  have HE2 : Hid ((rqC (conc y) (.slice D2 m e2) (.slice P2 0 f2)) = #[.int .u32 nx, .slice D2 m e2, .slice P2 0 f2, .bool kn, .int .u32 fi, .bool true]) := by show _ = _; unfold rqC; rw [hnx, hkn, hfi, HDN.out]
  rw [hnx, hkn, hfi] at HZN
  have F8 := F7
  simp only [List.length_nil] at F8 HEN
  rw [HE1.out, HE2.out] at F8
  rw [HE1.out] at HEN
  clear F7 hnx hkn hfi HE1 HE2
  obtain ⟨a0, a1, a2, a3, a4, a5⟩ := six_arr (F8.out.at (i := 1) rfl)
  obtain ⟨b0, b1, b2, b3, b4, b5⟩ := six_arr (F8.out.at (i := 0) rfl)
  have hv0 := HV0.out
  have hv2 := HV2.out
  obtain ⟨ie, hie⟩ : ∃ ie, D0.isEmpty = ie := ⟨_, rfl⟩
  rw [hie] at HEN
  have HIE : Hid (ie = decide (m = 0)) := by
    show _ = _
    rw [← hie, ← HDM.out]
    cases D0 <;> simp
  clear hie
  go_wp2_with fail
  refine HEN.out.mono ?_
  rintro e w8 ⟨rfl, hb⟩
  have F9 := Lib.hid (F8.out.call hb)
  clear a0 a1 a2 a3 a4 a5 b0 b1 b2 b3 b4 b5 hv0 hv2 hb F8 HEN HV0 HV1 HV2
  have HRZ := Lib.hid (HRE.out w8 _ _ (F9.out.val (i := 0) rfl))
  clear HRE
  have hcase : (ie = true ∧ (m : Int) = 0) ∨ (ie = false ∧ ¬ (m : Int) = 0) := by
    rw [HIE.out]
    by_cases h0 : m = 0
    · left
      exact ⟨decide_eq_true h0, by omega⟩
    · right
      exact ⟨decide_eq_false h0, by omega⟩
  rcases hcase with ⟨rfl, hm0⟩ | ⟨rfl, hm0⟩
  · go_wp2_with (refine wpList_load_row rfl 29 _ rfl g2 rfl 29 #[.int .u32 nx, .slice D2 m e2, .slice P2 0 f2, .bool kn, .int .u32 fi, .bool true] (0, 0) _ (F9.out.at (i := 0) rfl) Try.underlying29 rfl (by kernel_rfl) ?_)
    refine HRZ.out.mono ?_
    rintro e w9 ⟨cs3, vb, rfl, hr, hrb, hb⟩
    obtain ⟨vD3, vA3, rfl, h1⟩ := rq_of hr
    have H1 := Lib.hid h1
    have F10 := Lib.hid ((F9.out.res hb hr).more F9.out (us := [vb]) (ds := [bytesD D0]) (rvs_cons.2 ⟨hrb, rvs_nil⟩))
    clear hr hrb hb h1 F9 HRZ
    go_upto_region 8 with (first | (refine wpList_store_new rfl 29 _ _ rfl w9 #[.int .u32 0, .slice none 0 0, .slice none 0 0, .bool false, .int .u32 0, .bool false] (rqC (conc z) vD3 vA3) rfl rfl (by kernel_rfl) rfl H1.out ?_) | go_in)
    have F11 := Lib.hid (F10.out.alloc (rqC (conc z) vD3 vA3) 29)
    obtain ⟨g3, hg⟩ : ∃ g3, w9.heap.size = g3 := ⟨_, rfl⟩
    rw [hg] at F11 ⊢
    generalize w9.alloc (.cells (rqC (conc z) vD3 vA3) 29) = w10 at F11 ⊢
    clear F10 hg H1
    obtain ⟨D3, e3, h1, -⟩ := rv_bytes.1 (rq_data (F11.out.val (i := 1) rfl))
    rw [HZD.out] at h1
    subst h1
    obtain ⟨P3, f3, h1, -⟩ := pc_elem (rq_ahead (F11.out.val (i := 1) rfl))
    rw [HZN.out.2.2.2.2] at h1
    subst h1
    have hvb := conv_bytes (rvs_cons.1 (F11.out.val (i := 0) rfl)).1 w10 (Below.refl _ _)
    have hvd := conv_bytes (rvs_cons.1 (F11.out.val (i := 4) rfl)).1 w10 (Below.refl _ _)
    have HEZ := Lib.hid (fun w' (hb : Below w10.heap.size w10 w') => ended_any z _ _ w' (rvs_call (F11.out.val (i := 1) rfl) hb) HOZ.out)
    have HWZ := Lib.hid (fun w' (hb : Below w10.heap.size w10 w') => window_any z _ _ w' (rvs_call (F11.out.val (i := 1) rfl) hb) HOZ.out)
    rw [HZE.out] at HEZ
    rw [HZW.out] at HWZ
    simp only [List.length_nil] at F11 HEZ HWZ
    have HE3 : Hid ((rqC (conc z) (.slice D3 0 e3) (.slice P3 0 f3)) = #[.int .u32 nx, .slice D3 0 e3, .slice P3 0 f3, .bool kn, .int .u32 fi, .bool true]) := by show _ = _; unfold rqC; rw [HZN.out.1, HZN.out.2.1, HZN.out.2.2.1, HZN.out.2.2.2.1]
    rw [HE3.out] at F11 HEZ HWZ
    clear HE3
    obtain ⟨c0, c1, c2, c3, c4, c5⟩ := six_arr (F11.out.at (i := 0) rfl)
    go_wp2_with fail
    refine (HEZ.out _ (Below.refl _ _)).mono ?_
    rintro e w11 ⟨rfl, hb⟩
    have HBW := Lib.hid hb
    have F12 := Lib.hid (F11.out.call hb)
    clear hb c0 c1 c2 c3 c4 c5 hvb hvd F11
    obtain ⟨c0, c1, c2, c3, c4, c5⟩ := six_arr (F12.out.at (i := 0) rfl)
    go_wp2_with fail
    refine (HWZ.out _ HBW.out).mono ?_
    rintro e w12 ⟨rfl, hb⟩
    have HBE := Lib.hid (F12.out.call hb).below
    clear hb c0 c1 c2 c3 c4 c5 F12
    go_wp2
    go_ret
    exact ⟨rfl, HBE.out⟩
  · go_wp2_with (refine wpList_load_row rfl 29 _ rfl g2 rfl 29 #[.int .u32 nx, .slice D2 m e2, .slice P2 0 f2, .bool kn, .int .u32 fi, .bool true] (0, 0) _ (F9.out.at (i := 0) rfl) Try.underlying29 rfl (by kernel_rfl) ?_)
    refine HRZ.out.mono ?_
    rintro e w9 ⟨cs3, vb, rfl, hr, hrb, hb⟩
    obtain ⟨vD3, vA3, rfl, h1⟩ := rq_of hr
    have H1 := Lib.hid h1
    have F10 := Lib.hid ((F9.out.res hb hr).more F9.out (us := [vb]) (ds := [bytesD D0]) (rvs_cons.2 ⟨hrb, rvs_nil⟩))
    clear hr hrb hb h1 F9 HRZ
    go_upto_region 8 with (first | (refine wpList_store_new rfl 29 _ _ rfl w9 #[.int .u32 0, .slice none 0 0, .slice none 0 0, .bool false, .int .u32 0, .bool false] (rqC (conc z) vD3 vA3) rfl rfl (by kernel_rfl) rfl H1.out ?_) | go_in)
    have F11 := Lib.hid (F10.out.alloc (rqC (conc z) vD3 vA3) 29)
    obtain ⟨g3, hg⟩ : ∃ g3, w9.heap.size = g3 := ⟨_, rfl⟩
    rw [hg] at F11 ⊢
    generalize w9.alloc (.cells (rqC (conc z) vD3 vA3) 29) = w10 at F11 ⊢
    clear F10 hg H1
    obtain ⟨D3, e3, h1, -⟩ := rv_bytes.1 (rq_data (F11.out.val (i := 1) rfl))
    rw [HZD.out] at h1
    subst h1
    obtain ⟨P3, f3, h1, -⟩ := pc_elem (rq_ahead (F11.out.val (i := 1) rfl))
    rw [HZN.out.2.2.2.2] at h1
    subst h1
    have hvb := conv_bytes (rvs_cons.1 (F11.out.val (i := 0) rfl)).1 w10 (Below.refl _ _)
    have hvd := conv_bytes (rvs_cons.1 (F11.out.val (i := 4) rfl)).1 w10 (Below.refl _ _)
    have HEZ := Lib.hid (fun w' (hb : Below w10.heap.size w10 w') => ended_any z _ _ w' (rvs_call (F11.out.val (i := 1) rfl) hb) HOZ.out)
    have HWZ := Lib.hid (fun w' (hb : Below w10.heap.size w10 w') => window_any z _ _ w' (rvs_call (F11.out.val (i := 1) rfl) hb) HOZ.out)
    rw [HZE.out] at HEZ
    rw [HZW.out] at HWZ
    simp only [List.length_nil] at F11 HEZ HWZ
    have HE3 : Hid ((rqC (conc z) (.slice D3 0 e3) (.slice P3 0 f3)) = #[.int .u32 nx, .slice D3 0 e3, .slice P3 0 f3, .bool kn, .int .u32 fi, .bool true]) := by show _ = _; unfold rqC; rw [HZN.out.1, HZN.out.2.1, HZN.out.2.2.1, HZN.out.2.2.2.1]
    rw [HE3.out] at F11 HEZ HWZ
    clear HE3
    obtain ⟨c0, c1, c2, c3, c4, c5⟩ := six_arr (F11.out.at (i := 0) rfl)
    go_wp2_with fail
    refine (HEZ.out _ (Below.refl _ _)).mono ?_
    rintro e w11 ⟨rfl, hb⟩
    have HBW := Lib.hid hb
    have F12 := Lib.hid (F11.out.call hb)
    clear hb c0 c1 c2 c3 c4 c5 hvb hvd F11
    obtain ⟨c0, c1, c2, c3, c4, c5⟩ := six_arr (F12.out.at (i := 0) rfl)
    go_wp2_with fail
    refine (HWZ.out _ HBW.out).mono ?_
    rintro e w12 ⟨rfl, hb⟩
    have HBE := Lib.hid (F12.out.call hb).below
    clear hb c0 c1 c2 c3 c4 c5 F12
    go_wp2
    go_ret
    exact ⟨rfl, HBE.out⟩
end Go.Proofs.Ytdgfhcojmfgimaa
