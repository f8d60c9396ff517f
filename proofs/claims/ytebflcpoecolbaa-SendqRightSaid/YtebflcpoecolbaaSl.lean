/-
  The document's Like of layer 18: a state that may be, and the code's of it. No other condition.
-/
import Derived.Test.YtebflcpoecolbaaSa
import Derived.Test.YtebflcpoecolbaaVar
namespace Go.Proofs.Ytebflcpoecolbaa
open Go.RowKit

def sqC (q : Sq) (vD : Value) : Array Value := #[.int .u32 q.una, vD, .int .i64 (q.sent : Int), .bool q.fin, .bool q.fsent, .bool q.facked]
theorem sq_of {w : World} {S : Nat → Prop} {ds : Array Value} {q : Sq} (h : Rvs w S ds.toList (sqD q)) : ∃ vD, ds = sqC q vD ∧ Rv w S vD (bytesD q.data) ∧ (sqC q vD).all (·.oneCell') = true := by
  obtain ⟨v0, v1, v2, v3, v4, v5, hcs⟩ : ∃ v0 v1 v2 v3 v4 v5, ds.toList = [v0, v1, v2, v3, v4, v5] := by
    have := h.1
    rcases hc : ds.toList with _ | ⟨v0, _ | ⟨v1, _ | ⟨v2, _ | ⟨v3, _ | ⟨v4, _ | ⟨v5, _ | ⟨v6, l⟩⟩⟩⟩⟩⟩⟩ <;> rw [hc] at this <;> simp [sqD] at this
    exact ⟨_, _, _, _, _, _, rfl⟩
  have he : ds = #[v0, v1, v2, v3, v4, v5] := by rw [← Array.toArray_toList (xs := ds), hcs]
  have h1 := h.ones
  rw [hcs] at h
  unfold sqD at h
  simp only [rvs_cons, rv_val] at h
  obtain ⟨⟨rfl, _⟩, hD, ⟨rfl, _⟩, ⟨rfl, _⟩, ⟨rfl, _⟩, ⟨rfl, _⟩, _⟩ := h
  refine ⟨v1, he, hD, ?_⟩
  have e : sqC q v1 = ds := he.symm
  rw [e]
  exact Array.all_eq_true_iff_forall_mem.2 fun u hu => h1 u (by simpa using hu)
theorem conv_bytesS {w : World} {S : Nat → Prop} {v : Value} {l : List UInt8} (h : Rv w S v (bytesD l)) : ∀ w', Below w.heap.size w w' → (convert 26 9 v).run Try.prog w' = .ok (.string ⟨l.toArray⟩) w' := fun w' hb => by
  have tight : Rv w (fun b => S b ∧ b < w.heap.size) v (bytesD l) := (rvs_cons.1 (rvs_tight' (rvs_cons.2 ⟨h, rvs_nil⟩))).1
  obtain ⟨A, c, rfl, h2, _⟩ := rv_bytes.1 (tight.kept hb (fun _ h => h.2))
  exact run_text (P := Try.prog) w' 26 9 5 c Try.underlying26 Try.underlying5 Try.underlying9 (lo := 0) (hi := w.heap.size) (RdS.rd h2 (fun b h => ⟨Nat.zero_le _, h.2⟩))
set_option maxRecDepth 100000 in
set_option maxHeartbeats 8000000 in
theorem like18_any (x : Sx) (ds : Array Value) (S : Nat → Prop) (w : World) (hx : OkS x) (hl : x.all.length ≤ 1000000) (hq : Rvs w S ds.toList (sqD (concS x))) : Calls Try.prog 12 #[.agg (sxC x), .agg ds] w fun e w' => e = .returned (.bool true) ∧ Below w.heap.size w w' := by
  obtain ⟨vD, rfl, hvD, h1⟩ := sq_of hq
  have hak : x.acked ≤ 1000001 := by have h1 := hx.acked; have h2 := hx.sent; split at h1 <;> omega
  have hfs := hx.from_le
  have hfm : fromS x ≤ x.all.length := Nat.min_le_right ..
  have hsl := hx.sent
  obtain ⟨w1, hw1⟩ : ∃ w1, (w.alloc (.cells (sxC x) 31)).alloc (.cells (sqC (concS x) vD) 28) = w1 := ⟨_, rfl⟩
  have HB1 : Hid (Below w.heap.size w w1) := by rw [← hw1]; exact ((Below.refl _ _).alloc (Nat.le_refl _) _).alloc (by simp) _
  have HX0 : Hid (w1.heap[w.heap.size]? = some (.cells (sxC x) 31 (0, 0))) := by rw [← hw1]; exact old_alloc (heap_alloc_new w _) _
  have HX1 : Hid (w1.heap[w.heap.size + 1]? = some (.cells (sqC (concS x) vD) 28 (0, 0))) := by rw [← hw1]; exact new_at1 w _ _
  have HW := Lib.hid hw1
  have HCV : Hid (∀ w', Below w.heap.size w w' → (convert 26 9 vD).run Try.prog w' = .ok (.string ⟨(x.all.drop (fromS x)).toArray⟩) w') := Lib.hid (conv_bytesS hvD)
  clear hw1 hq hvD h1
  obtain ⟨g, hg⟩ : ∃ g, w.heap.size + 1 = g := ⟨_, rfl⟩
  rw [hg] at HX1
  have HG := Lib.hid hg
  clear hg
  have HF3 := Lib.hid hx.first
  have HFF : Hid (fromS x = min x.acked x.all.length) := rfl
  have HUN : Hid ((concS x).una = addS x.first x.acked) := rfl
  have HSE : Hid (((concS x).sent : Int) = (x.sent : Int) - (fromS x : Int)) := by show ((x.sent - fromS x : Nat) : Int) = _; omega
  have HFI : Hid ((concS x).fin = x.fin ∧ (concS x).fsent = x.fsent ∧ (concS x).facked = decide (x.all.length < x.acked)) := ⟨rfl, rfl, rfl⟩
  obtain ⟨fr, hfr⟩ : ∃ fr, fromS x = fr := ⟨_, rfl⟩
  rw [hfr] at hfs hfm HCV HFF HSE
  obtain ⟨m, hm⟩ : ∃ m, x.all.length = m := ⟨_, rfl⟩
  have hts : (⟨x.all.toArray⟩ : ByteArray).size = m := (txt_size _).trans hm
  rw [hm] at hfm hl hsl HFF HFI
  have HEX : Hid ((⟨x.all.toArray⟩ : ByteArray).extract fr m = ⟨(x.all.drop fr).toArray⟩) := by
    apply ByteArray.ext
    simp [← hm]
    exact List.take_of_length_le (by simp)
  obtain ⟨a, ha⟩ : ∃ a, x.acked = a := ⟨_, rfl⟩
  rw [ha] at hak HFF HFI HUN
  have HXC : Hid (sxC x = #[.int .u32 x.first, .string ⟨x.all.toArray⟩, .int .i64 (a : Int), .int .i64 (x.sent : Int), .bool x.fin, .bool x.fsent]) := by show _ = _; rw [← ha]; rfl
  have HQC : Hid (sqC (concS x) vD = #[.int .u32 (addS x.first a), vD, .int .i64 ((x.sent : Int) - (fr : Int)), .bool x.fin, .bool x.fsent, .bool (decide (m < a))]) := by
    show _ = _
    unfold sqC
    rw [HUN.out, HSE.out, HFI.out.1, HFI.out.2.1, HFI.out.2.2]
  clear hfr hm ha hx HUN HSE HFI
  go_enter Try.func12, Try.ntmps12
  go_upto_region 1 with (fail)
  change Code.wp _ _ _ _ ((w.alloc (.cells (sxC x) 31)).alloc (.cells (sqC (concS x) vD) 28))
  rw [HW.out, HG.out]
  clear HW
  rw [HXC.out] at HX0
  rw [HQC.out] at HX1
  go_cut [5] (fun t5 wx => Hid (t5 = .int .i64 (fr : Int)) ∧ Hid (w1 = wx))
  case first =>
    have c1 : w1.cell? ⟨w.heap.size, 1, none⟩ = some (.string ⟨x.all.toArray⟩) := by rw [cell_of_row _ _ _ _ _ _ HX0.out]; rfl
    have c2 : w1.cell? ⟨w.heap.size, 2, none⟩ = some (.int .i64 (a : Int)) := by rw [cell_of_row _ _ _ _ _ _ HX0.out]; rfl
    rcases Nat.lt_trichotomy a m with h | h | h
    · have hb : (a : Int) < (m : Int) := by omega
      have he : Hid (fr = a) := by have := HFF.out; show _ = _; omega
      go_wp2
      go_meet
      case rel => exact ⟨Lib.hid (by rw [he.out]), Lib.hid rfl⟩
    · subst h
      have he : Hid (fr = a) := by have := HFF.out; show _ = _; omega
      go_wp2
      go_meet
      case rel => exact ⟨Lib.hid (by rw [he.out]), Lib.hid rfl⟩
    · have hb : (m : Int) < (a : Int) := by omega
      have he : Hid (fr = m) := by have := HFF.out; show _ = _; omega
      go_wp2
      go_meet
      case rel => exact ⟨Lib.hid (by rw [he.out]), Lib.hid rfl⟩
  case rest =>
    obtain ⟨h5, hx⟩ := hcut
    obtain rfl := h5.out
    obtain rfl := hx.out
    clear h5 hx HFF
    have hex := HEX.out
    have hfmI : (fr : Int) ≤ (m : Int) := by omega
    have HADD : Hid (∀ w', Calls Try.prog 29 #[.int .u32 x.first, .int .i64 (a : Int)] w' fun e w'' => e = .returned (.int .u32 (addS x.first (a : Int))) ∧ Below w'.heap.size w' w'') := fun w' => (sqrefadd_any x.first (a : Int) w' HF3.out.1 HF3.out.2 (by omega) (by omega)).mono (by rintro e w9 ⟨rfl, rfl⟩; exact ⟨rfl, Below.refl _ _⟩)
    go_upto_region 2 with (fail)
    by_cases hma : m < a
    · have hmaI : (m : Int) < (a : Int) := by omega
      rw [decide_eq_true hma] at HX1
      refine wp_region_quiet_below (by kernel_rfl) (by kernel_rfl) ?_
      (first | go_big_quiet_step (fail) | quiet_step (fail))
      (refine wpQuiet_step (fun K hK => ?_); refine quiet_load_cell (by kernel_rfl) 22 _ rfl ((⟨g, 0, none⟩ : Addr).add 0) (by first | rfl | (simp [Act.eval, Addr.add_mid])) (.int .u32 (addS x.first a)) _ (var_cell HX1.out 0 rfl) Try.underlying22 rfl ?_; refine hK _ ?_; clear hK K; go_frame)
      (first | go_big_quiet_step (fail) | quiet_step (fail))
      (refine wpQuiet_step (fun K hK => ?_); refine quiet_load_cell (by kernel_rfl) 22 _ rfl ((⟨w.heap.size, 0, none⟩ : Addr).add 0) (by first | rfl | (simp [Act.eval, Addr.add_mid])) (.int .u32 x.first) _ (var_cell HX0.out 0 rfl) Try.underlying22 rfl ?_; refine hK _ ?_; clear hK K; go_frame)
      (first | go_big_quiet_step (fail) | quiet_step (fail))
      (refine wpQuiet_step (fun K hK => ?_); refine quiet_load_cell (by kernel_rfl) 3 _ rfl ((⟨w.heap.size, 0, none⟩ : Addr).add 2) (by first | rfl | (simp [Act.eval, Addr.add_mid])) (.int .i64 (a : Int)) _ (var_cell HX0.out 2 rfl) Try.underlying3 rfl ?_; refine hK _ ?_; clear hK K; go_frame)
      quiet_step (first | (go_at_call 29; exact Calls.regrown_of (HADD.out _)))
      (first | go_big_quiet_step (fail) | quiet_step (fail))
      (first | go_big_quiet_step (fail) | quiet_step (fail))
      (first | go_big_quiet_step (fail) | quiet_step (fail))
      (refine wpQuiet_step (fun K hK => ?_); refine quiet_load_cell (by kernel_rfl) 26 _ rfl ((⟨g, 0, none⟩ : Addr).add 1) (by first | rfl | (simp [Act.eval, Addr.add_mid])) (vD) _ (var_cell HX1.out 1 rfl) Try.underlying26 rfl ?_; refine hK _ ?_; clear hK K; go_frame)
      (refine wpQuiet_step (fun K hK => ?_); refine quiet_conv (by kernel_rfl) 26 9 _ rfl vD (.string ⟨(x.all.drop fr).toArray⟩) rfl (fun w9 hr9 => HCV.out w9 (HB1.out.trans ((reg_below hr9).mono HB1.out.size))) ?_; refine hK _ ?_; clear hK K; go_frame)
      (first | go_big_quiet_step (fail) | quiet_step (fail))
      (refine wpQuiet_step (fun K hK => ?_); refine quiet_load_cell (by kernel_rfl) 9 _ rfl ((⟨w.heap.size, 0, none⟩ : Addr).add 1) (by first | rfl | (simp [Act.eval, Addr.add_mid])) (.string ⟨x.all.toArray⟩) _ (var_cell HX0.out 1 rfl) Try.underlying9 rfl ?_; refine hK _ ?_; clear hK K; go_frame)
      (first | go_big_quiet_step (fail) | quiet_step (fail))
      (first | go_big_quiet_step (fail) | quiet_step (fail))
      (first | go_big_quiet_step (fail) | quiet_step (fail))
      (first | go_big_quiet_step (fail) | quiet_step (fail))
      (first | go_big_quiet_step (fail) | quiet_step (fail))
      (first | go_big_quiet_step (fail) | quiet_step (fail))
      (refine wpQuiet_step (fun K hK => ?_); refine quiet_load_cell (by kernel_rfl) 3 _ rfl ((⟨g, 0, none⟩ : Addr).add 2) (by first | rfl | (simp [Act.eval, Addr.add_mid])) (.int .i64 ((x.sent : Int) - (fr : Int))) _ (var_cell HX1.out 2 rfl) Try.underlying3 rfl ?_; refine hK _ ?_; clear hK K; go_frame)
      (first | go_big_quiet_step (fail) | quiet_step (fail))
      (refine wpQuiet_step (fun K hK => ?_); refine quiet_load_cell (by kernel_rfl) 3 _ rfl ((⟨w.heap.size, 0, none⟩ : Addr).add 3) (by first | rfl | (simp [Act.eval, Addr.add_mid])) (.int .i64 (x.sent : Int)) _ (var_cell HX0.out 3 rfl) Try.underlying3 rfl ?_; refine hK _ ?_; clear hK K; go_frame)
      (first | go_big_quiet_step (fail) | quiet_step (fail))
      (first | go_big_quiet_step (fail) | quiet_step (fail))
      (first | go_big_quiet_step (fail) | quiet_step (fail))
      (first | go_big_quiet_step (fail) | quiet_step (fail))
      (first | go_big_quiet_step (fail) | quiet_step (fail))
      (first | go_big_quiet_step (fail) | quiet_step (fail))
      (refine wpQuiet_step (fun K hK => ?_); refine quiet_load_cell (by kernel_rfl) 4 _ rfl ((⟨g, 0, none⟩ : Addr).add 3) (by first | rfl | (simp [Act.eval, Addr.add_mid])) (.bool x.fin) _ (var_cell HX1.out 3 rfl) Try.underlying4 rfl ?_; refine hK _ ?_; clear hK K; go_frame)
      (first | go_big_quiet_step (fail) | quiet_step (fail))
      (refine wpQuiet_step (fun K hK => ?_); refine quiet_load_cell (by kernel_rfl) 4 _ rfl ((⟨w.heap.size, 0, none⟩ : Addr).add 4) (by first | rfl | (simp [Act.eval, Addr.add_mid])) (.bool x.fin) _ (var_cell HX0.out 4 rfl) Try.underlying4 rfl ?_; refine hK _ ?_; clear hK K; go_frame)
      (first | go_big_quiet_step (fail) | quiet_step (fail))
      (first | go_big_quiet_step (fail) | quiet_step (fail))
      (first | go_big_quiet_step (fail) | quiet_step (fail))
      (first | go_big_quiet_step (fail) | quiet_step (fail))
      (refine wpQuiet_step (fun K hK => ?_); refine quiet_load_cell (by kernel_rfl) 4 _ rfl ((⟨g, 0, none⟩ : Addr).add 4) (by first | rfl | (simp [Act.eval, Addr.add_mid])) (.bool x.fsent) _ (var_cell HX1.out 4 rfl) Try.underlying4 rfl ?_; refine hK _ ?_; clear hK K; go_frame)
      (first | go_big_quiet_step (fail) | quiet_step (fail))
      (refine wpQuiet_step (fun K hK => ?_); refine quiet_load_cell (by kernel_rfl) 4 _ rfl ((⟨w.heap.size, 0, none⟩ : Addr).add 5) (by first | rfl | (simp [Act.eval, Addr.add_mid])) (.bool x.fsent) _ (var_cell HX0.out 5 rfl) Try.underlying4 rfl ?_; refine hK _ ?_; clear hK K; go_frame)
      (first | go_big_quiet_step (fail) | quiet_step (fail))
      (first | go_big_quiet_step (fail) | quiet_step (fail))
      (first | go_big_quiet_step (fail) | quiet_step (fail))
      (first | go_big_quiet_step (fail) | quiet_step (fail))
      (refine wpQuiet_step (fun K hK => ?_); refine quiet_load_cell (by kernel_rfl) 4 _ rfl ((⟨g, 0, none⟩ : Addr).add 5) (by first | rfl | (simp [Act.eval, Addr.add_mid])) (.bool true) _ (var_cell HX1.out 5 rfl) Try.underlying4 rfl ?_; refine hK _ ?_; clear hK K; go_frame)
      (first | go_big_quiet_step (fail) | quiet_step (fail))
      (refine wpQuiet_step (fun K hK => ?_); refine quiet_load_cell (by kernel_rfl) 3 _ rfl ((⟨w.heap.size, 0, none⟩ : Addr).add 2) (by first | rfl | (simp [Act.eval, Addr.add_mid])) (.int .i64 (a : Int)) _ (var_cell HX0.out 2 rfl) Try.underlying3 rfl ?_; refine hK _ ?_; clear hK K; go_frame)
      (first | go_big_quiet_step (fail) | quiet_step (fail))
      (refine wpQuiet_step (fun K hK => ?_); refine quiet_load_cell (by kernel_rfl) 9 _ rfl ((⟨w.heap.size, 0, none⟩ : Addr).add 1) (by first | rfl | (simp [Act.eval, Addr.add_mid])) (.string ⟨x.all.toArray⟩) _ (var_cell HX0.out 1 rfl) Try.underlying9 rfl ?_; refine hK _ ?_; clear hK K; go_frame)
      (first | go_big_quiet_step (fail) | quiet_step (fail))
      (first | go_big_quiet_step (fail) | quiet_step (fail))
      (first | go_big_quiet_step (fail) | quiet_step (fail))
      (first | go_big_quiet_step (fail) | quiet_step (fail))
      (first | go_big_quiet_step (fail) | quiet_step (fail))
      refine wpQuiet_nil ?_
      intro w9 hw9
      obtain ⟨⟨dq, osq⟩, rfl⟩ := hw9
      have HB9 := Lib.hid ((HB1.out).trans ((below_regrown w1 dq osq).mono (HB1.out).size))
      generalize Sort.grow (redrawn w1 dq) osq = w9z at *
      go_wp2
      go_ret
      exact ⟨rfl, HB9.out⟩
    · have hmaI : ¬ (m : Int) < (a : Int) := by omega
      rw [decide_eq_false hma] at HX1
      refine wp_region_quiet_below (by kernel_rfl) (by kernel_rfl) ?_
      (first | go_big_quiet_step (fail) | quiet_step (fail))
      (refine wpQuiet_step (fun K hK => ?_); refine quiet_load_cell (by kernel_rfl) 22 _ rfl ((⟨g, 0, none⟩ : Addr).add 0) (by first | rfl | (simp [Act.eval, Addr.add_mid])) (.int .u32 (addS x.first a)) _ (var_cell HX1.out 0 rfl) Try.underlying22 rfl ?_; refine hK _ ?_; clear hK K; go_frame)
      (first | go_big_quiet_step (fail) | quiet_step (fail))
      (refine wpQuiet_step (fun K hK => ?_); refine quiet_load_cell (by kernel_rfl) 22 _ rfl ((⟨w.heap.size, 0, none⟩ : Addr).add 0) (by first | rfl | (simp [Act.eval, Addr.add_mid])) (.int .u32 x.first) _ (var_cell HX0.out 0 rfl) Try.underlying22 rfl ?_; refine hK _ ?_; clear hK K; go_frame)
      (first | go_big_quiet_step (fail) | quiet_step (fail))
      (refine wpQuiet_step (fun K hK => ?_); refine quiet_load_cell (by kernel_rfl) 3 _ rfl ((⟨w.heap.size, 0, none⟩ : Addr).add 2) (by first | rfl | (simp [Act.eval, Addr.add_mid])) (.int .i64 (a : Int)) _ (var_cell HX0.out 2 rfl) Try.underlying3 rfl ?_; refine hK _ ?_; clear hK K; go_frame)
      quiet_step (first | (go_at_call 29; exact Calls.regrown_of (HADD.out _)))
      (first | go_big_quiet_step (fail) | quiet_step (fail))
      (first | go_big_quiet_step (fail) | quiet_step (fail))
      (first | go_big_quiet_step (fail) | quiet_step (fail))
      (refine wpQuiet_step (fun K hK => ?_); refine quiet_load_cell (by kernel_rfl) 26 _ rfl ((⟨g, 0, none⟩ : Addr).add 1) (by first | rfl | (simp [Act.eval, Addr.add_mid])) (vD) _ (var_cell HX1.out 1 rfl) Try.underlying26 rfl ?_; refine hK _ ?_; clear hK K; go_frame)
      (refine wpQuiet_step (fun K hK => ?_); refine quiet_conv (by kernel_rfl) 26 9 _ rfl vD (.string ⟨(x.all.drop fr).toArray⟩) rfl (fun w9 hr9 => HCV.out w9 (HB1.out.trans ((reg_below hr9).mono HB1.out.size))) ?_; refine hK _ ?_; clear hK K; go_frame)
      (first | go_big_quiet_step (fail) | quiet_step (fail))
      (refine wpQuiet_step (fun K hK => ?_); refine quiet_load_cell (by kernel_rfl) 9 _ rfl ((⟨w.heap.size, 0, none⟩ : Addr).add 1) (by first | rfl | (simp [Act.eval, Addr.add_mid])) (.string ⟨x.all.toArray⟩) _ (var_cell HX0.out 1 rfl) Try.underlying9 rfl ?_; refine hK _ ?_; clear hK K; go_frame)
      (first | go_big_quiet_step (fail) | quiet_step (fail))
      (first | go_big_quiet_step (fail) | quiet_step (fail))
      (first | go_big_quiet_step (fail) | quiet_step (fail))
      (first | go_big_quiet_step (fail) | quiet_step (fail))
      (first | go_big_quiet_step (fail) | quiet_step (fail))
      (first | go_big_quiet_step (fail) | quiet_step (fail))
      (refine wpQuiet_step (fun K hK => ?_); refine quiet_load_cell (by kernel_rfl) 3 _ rfl ((⟨g, 0, none⟩ : Addr).add 2) (by first | rfl | (simp [Act.eval, Addr.add_mid])) (.int .i64 ((x.sent : Int) - (fr : Int))) _ (var_cell HX1.out 2 rfl) Try.underlying3 rfl ?_; refine hK _ ?_; clear hK K; go_frame)
      (first | go_big_quiet_step (fail) | quiet_step (fail))
      (refine wpQuiet_step (fun K hK => ?_); refine quiet_load_cell (by kernel_rfl) 3 _ rfl ((⟨w.heap.size, 0, none⟩ : Addr).add 3) (by first | rfl | (simp [Act.eval, Addr.add_mid])) (.int .i64 (x.sent : Int)) _ (var_cell HX0.out 3 rfl) Try.underlying3 rfl ?_; refine hK _ ?_; clear hK K; go_frame)
      (first | go_big_quiet_step (fail) | quiet_step (fail))
      (first | go_big_quiet_step (fail) | quiet_step (fail))
      (first | go_big_quiet_step (fail) | quiet_step (fail))
      (first | go_big_quiet_step (fail) | quiet_step (fail))
      (first | go_big_quiet_step (fail) | quiet_step (fail))
      (first | go_big_quiet_step (fail) | quiet_step (fail))
      (refine wpQuiet_step (fun K hK => ?_); refine quiet_load_cell (by kernel_rfl) 4 _ rfl ((⟨g, 0, none⟩ : Addr).add 3) (by first | rfl | (simp [Act.eval, Addr.add_mid])) (.bool x.fin) _ (var_cell HX1.out 3 rfl) Try.underlying4 rfl ?_; refine hK _ ?_; clear hK K; go_frame)
      (first | go_big_quiet_step (fail) | quiet_step (fail))
      (refine wpQuiet_step (fun K hK => ?_); refine quiet_load_cell (by kernel_rfl) 4 _ rfl ((⟨w.heap.size, 0, none⟩ : Addr).add 4) (by first | rfl | (simp [Act.eval, Addr.add_mid])) (.bool x.fin) _ (var_cell HX0.out 4 rfl) Try.underlying4 rfl ?_; refine hK _ ?_; clear hK K; go_frame)
      (first | go_big_quiet_step (fail) | quiet_step (fail))
      (first | go_big_quiet_step (fail) | quiet_step (fail))
      (first | go_big_quiet_step (fail) | quiet_step (fail))
      (first | go_big_quiet_step (fail) | quiet_step (fail))
      (refine wpQuiet_step (fun K hK => ?_); refine quiet_load_cell (by kernel_rfl) 4 _ rfl ((⟨g, 0, none⟩ : Addr).add 4) (by first | rfl | (simp [Act.eval, Addr.add_mid])) (.bool x.fsent) _ (var_cell HX1.out 4 rfl) Try.underlying4 rfl ?_; refine hK _ ?_; clear hK K; go_frame)
      (first | go_big_quiet_step (fail) | quiet_step (fail))
      (refine wpQuiet_step (fun K hK => ?_); refine quiet_load_cell (by kernel_rfl) 4 _ rfl ((⟨w.heap.size, 0, none⟩ : Addr).add 5) (by first | rfl | (simp [Act.eval, Addr.add_mid])) (.bool x.fsent) _ (var_cell HX0.out 5 rfl) Try.underlying4 rfl ?_; refine hK _ ?_; clear hK K; go_frame)
      (first | go_big_quiet_step (fail) | quiet_step (fail))
      (first | go_big_quiet_step (fail) | quiet_step (fail))
      (first | go_big_quiet_step (fail) | quiet_step (fail))
      (first | go_big_quiet_step (fail) | quiet_step (fail))
      (refine wpQuiet_step (fun K hK => ?_); refine quiet_load_cell (by kernel_rfl) 4 _ rfl ((⟨g, 0, none⟩ : Addr).add 5) (by first | rfl | (simp [Act.eval, Addr.add_mid])) (.bool false) _ (var_cell HX1.out 5 rfl) Try.underlying4 rfl ?_; refine hK _ ?_; clear hK K; go_frame)
      (first | go_big_quiet_step (fail) | quiet_step (fail))
      (refine wpQuiet_step (fun K hK => ?_); refine quiet_load_cell (by kernel_rfl) 3 _ rfl ((⟨w.heap.size, 0, none⟩ : Addr).add 2) (by first | rfl | (simp [Act.eval, Addr.add_mid])) (.int .i64 (a : Int)) _ (var_cell HX0.out 2 rfl) Try.underlying3 rfl ?_; refine hK _ ?_; clear hK K; go_frame)
      (first | go_big_quiet_step (fail) | quiet_step (fail))
      (refine wpQuiet_step (fun K hK => ?_); refine quiet_load_cell (by kernel_rfl) 9 _ rfl ((⟨w.heap.size, 0, none⟩ : Addr).add 1) (by first | rfl | (simp [Act.eval, Addr.add_mid])) (.string ⟨x.all.toArray⟩) _ (var_cell HX0.out 1 rfl) Try.underlying9 rfl ?_; refine hK _ ?_; clear hK K; go_frame)
      (first | go_big_quiet_step (fail) | quiet_step (fail))
      (first | go_big_quiet_step (fail) | quiet_step (fail))
      (first | go_big_quiet_step (fail) | quiet_step (fail))
      (first | go_big_quiet_step (fail) | quiet_step (fail))
      (first | go_big_quiet_step (fail) | quiet_step (fail))
      refine wpQuiet_nil ?_
      intro w9 hw9
      obtain ⟨⟨dq, osq⟩, rfl⟩ := hw9
      have HB9 := Lib.hid ((HB1.out).trans ((below_regrown w1 dq osq).mono (HB1.out).size))
      generalize Sort.grow (redrawn w1 dq) osq = w9z at *
      go_wp2
      go_ret
      exact ⟨rfl, HB9.out⟩
end Go.Proofs.Ytebflcpoecolbaa
