/-
  A packet's value laid into a new variable, and read out of it whole; the chapter's example, as the statements of layer 6 ask it first: the answer is true, and nothing that was there is turned. Every world.
-/
import Derived.Test.YtbmjjhflaocgiaaBuild
import Derived.Test.YtbmjjhflaocgiaaParse
import Derived.Test.YtbmjjhflaocgiaaSame
import Derived.Lib.SlBytesConst
import Derived.Deep.WholeRow
namespace Go.Proofs.Ytbmjjhflaocgiaa
open Go.RowKit

theorem wpList_store_new {P : Program} {ops : Array Oper} {rest : List Oper} {o : Oper} {a : Act} {Q : Exit → Act → World → Prop} (hgd : o.guard = none) (ty : TypeId) (x y : Operand) (ho : o.op = .store ty x y)
    (w0 : World) (zs cs : Array Value) (hx : a.eval x = .pointer (some ⟨w0.heap.size, 0, none⟩)) (hy : a.eval y = .agg cs) (hi : (P.info? ty).map (·.size) = some cs.size) (hs : zs.size = cs.size) (h1 : cs.all (·.oneCell') = true)
    (h : wpList P ops Q rest (a.put o.dst undef) (w0.alloc (.cells cs ty))) : wpList P ops Q (o :: rest) a (w0.alloc (.cells zs ty)) := by
  refine wpList_store_row hgd ty x y ho w0.heap.size cs hx hy ty zs (heap_alloc_new w0 _) hi hs h1 ?_
  rw [World.setRow_alloc_new]
  exact h
theorem wpList_load_rowg {P : Program} {ops : Array Oper} {rest : List Oper} {o : Oper} {a : Act} {w : World} {Q : Exit → Act → World → Prop} (hg : Region.wanted o (yielded ops a.tmps) = true) (ty : TypeId) (x : Operand) (ho : o.op = .load ty x) (g : Nat) (hx : a.eval x = .pointer (some ⟨g, 0, none⟩))
    (t : TypeId) (cs : Array Value) (fr : Nat × Nat) (d : TypeDesc) (hgg : w.heap[g]? = some (.cells cs t fr)) (hu : P.underlying ty = some d) (hd : d.isRow = true) (hi : (P.info? ty).map (·.size) = some cs.size)
    (h : wpList P ops Q rest (a.put o.dst (.agg cs)) w) : wpList P ops Q (o :: rest) a w :=
  wpList_wanted hg fun _ hK => wp_load_row ty x ho g hx t cs fr d hgg hu (by cases d <;> first | rfl | cases hd) hi (hK _ _ h)
theorem size_pk {cs : Array Value} (h : cs.size = 14) : (Try.prog.info? 27).map (·.size) = some cs.size := by
  rw [h]
  kernel_rfl
theorem all_one {cs : List Value} (h : ∀ u ∈ cs, u.oneCell' = true) : cs.toArray.all (·.oneCell') = true :=
  Array.all_eq_true_iff_forall_mem.2 fun v hv => h v (by simpa using hv)
theorem PkV.one {w : World} {lo hi : Nat} {cs : Array Value} {p : Pk} (h : PkV w lo hi cs p) : cs.all (·.oneCell') = true := by
  obtain ⟨A, c, rfl, _⟩ := h
  refine all_one fun u hu => ?_
  simp only [pkC, List.mem_append, List.mem_cons, List.not_mem_nil, or_false] at hu
  rcases hu with rfl | rfl | rfl | rfl | rfl | (hu | hu) | rfl
  · rfl
  · rfl
  · rfl
  · rfl
  · rfl
  · exact cells_one _ u hu
  · exact cells_one _ u hu
  · rfl
theorem PkV.ok {w : World} {lo hi : Nat} {cs : Array Value} {p : Pk} (h : PkV w lo hi cs p) : p.ok := by
  obtain ⟨A, c, rfl, h, _⟩ := h
  exact h
theorem PkV.alloc {w : World} {lo hi : Nat} {cs : Array Value} {p : Pk} (h : PkV w lo hi cs p) (hB : hi ≤ w.heap.size) (o : Obj) : PkV (w.alloc o) lo hi cs p := by
  obtain ⟨A, c, e, h1, h0, h2, h3⟩ := h
  exact ⟨A, c, e, h1, h0, h2.alloc hB o, h3⟩
/-- a packet's fields among its cells -/
theorem PkV.parts {w : World} {lo hi : Nat} {cs : Array Value} {p : Pk} (h : PkV w lo hi cs p) : ∃ A c, cs[1]? = some (.bool p.more) ∧ cs[3]? = some (.int .u8 (p.ttl.toNat : Int)) ∧ cs[13]? = some (.slice A p.data.length c) ∧ Rd w lo hi A (cells p.data) ∧ p.data.length ≤ c ∧ c ≤ maxLen ∧ (A = none → c = 0) := by
  obtain ⟨A, c, rfl, h1, _, h3⟩ := h
  exact ⟨A, c, rfl, rfl, by rw [List.getElem?_toArray]; exact pkC_13 h1 _, h3⟩
/-- Parse, the number of bytes by another name -/
theorem parse_len (A : Option Addr) (l : List UInt8) (n c hi : Nat) (w : World) (hn : l.length = n) (h : Rd w 0 hi A (cells l)) (hhi : hi ≤ w.heap.size) (hc : n ≤ c) (hl : n ≤ 100000) (hm : c ≤ maxLen) :
    Calls Try.prog 11 #[.slice A n c] w (ParsePost w (parseP l)) := by
  subst hn
  exact parse_any A l c w (h.wide (Nat.le_refl _) hhi) hc hl hm

def exP : Pk := ⟨0, false, 0, 9, 17, [0, 0, 0, 0], [0, 0, 0, 0], [120]⟩
theorem exP_ok : exP.ok := ⟨by decide, rfl, rfl⟩
theorem exP_placed : placedB exP = true := by decide
theorem exP_length : exP.bytes.length = 21 := bytes_length exP_ok
theorem build_ex (w : World) : Calls Try.prog 9 #[.agg #[.int .u16 0, .bool false, .int .i64 0, .int .u8 9, .int .u8 17, .int .u8 0, .int .u8 0, .int .u8 0, .int .u8 0, .int .u8 0, .int .u8 0, .int .u8 0, .int .u8 0, .slice (some ⟨w.heap.size, 0, none⟩) 1 1]] (w.alloc (.cells #[.int .u8 120] 5 (1, 2)))
    fun e w' => ∃ A c, e = .returned (.tuple #[.slice A 21 c, .int .i64 0]) ∧ OwnB w' (w.heap.size + 1) (.slice A 21 c) exP.bytes ∧ Below (w.heap.size + 1) (w.alloc (.cells #[.int .u8 120] 5 (1, 2))) w' := by
  have h := build_any #[.int .u16 0, .bool false, .int .i64 0, .int .u8 9, .int .u8 17, .int .u8 0, .int .u8 0, .int .u8 0, .int .u8 0, .int .u8 0, .int .u8 0, .int .u8 0, .int .u8 0, .slice (some ⟨w.heap.size, 0, none⟩) 1 1] exP (w.alloc (.cells #[.int .u8 120] 5 (1, 2))) w.heap.size (w.heap.size + 1)
    ⟨some ⟨w.heap.size, 0, none⟩, 1, rfl, exP_ok, ⟨by decide, by decide⟩, rd_new w (cells [120]) 5 (1, 2), Nat.le_refl _, by unfold maxLen; omega, fun h => by cases h⟩ (by simp)
  have e : buildP exP = (exP.bytes, 0) := by unfold buildP; rw [if_pos exP_placed, if_neg (by decide)]
  rw [e] at h
  unfold OwnPost at h
  simp only [exP_length, World.size_alloc] at h
  exact h
theorem parse_ex (A : Option Addr) (c : Nat) (w : World) (B : Nat) (h : OwnB w B (.slice A 21 c) exP.bytes) : Calls Try.prog 11 #[.slice A 21 c] w (ParsePost w (exP, 0)) := by
  unfold OwnB at h
  rw [exP_length] at h
  obtain ⟨h1, h2⟩ := own_cap h
  have := parse_len A exP.bytes 21 c w.heap.size w exP_length ((Rd.own h).wide (Nat.zero_le _) (Nat.le_refl _)) (Nat.le_refl _) h1 (by omega) h2
  have e := parse_bytes exP_ok exP_placed (by decide) []
  rw [List.append_nil] at e
  rw [e] at this
  exact this

set_option maxRecDepth 100000 in
set_option maxHeartbeats 1000000 in
theorem lives_any (w : World) : Calls Try.prog 8 #[] w fun e w' => e = .returned (.bool true) ∧ Below w.heap.size w w' := by
  have kc := fun (w : World) (C : Array Value) (n c : Nat) => Lib.run_convert_bytes_const (P := Try.prog) w 25 5 C n c Try.underlying25 Try.underlying5
  go_enter Try.func8, Try.ntmps8
  go_wp2_with fail
  clear kc
  refine (build_ex w).mono ?_
  rintro e w1 ⟨A1, c1, rfl, ho1, hb1⟩
  have HB1 : Hid (Below w.heap.size w w1) := (((Below.refl _ _).alloc (Nat.le_refl _) _).trans (hb1.mono (by simp)))
  have HO1 := Lib.hid ho1
  clear ho1 hb1
  go_wp2_with fail
  refine (parse_ex A1 c1 w1 _ HO1.out).mono ?_
  rintro e w2 ⟨cs, rfl, hf, hb2⟩
  have HB2 : Hid (Below w.heap.size w (w2.alloc (.cells cs 27))) := (HB1.out.trans (hb2.mono HB1.out.size)).alloc ((HB1.out.trans (hb2.mono HB1.out.size)).size) _
  have HS := Lib.hid hf.size
  have HO := Lib.hid hf.one
  obtain ⟨A, c, _, h3, h13, hr, _, _, _⟩ := hf.parts
  have ht := run_text (P := Try.prog) (w2.alloc (.cells cs 27)) 25 9 5 c Try.underlying25 Try.underlying5 Try.underlying9 (hr.alloc (Nat.le_refl _) _)
  have h3' : cs[3]? = some (.int .u8 9) := h3
  simp only [exP, List.length_cons, List.length_nil, Nat.zero_add] at h13 ht
  clear hb2 hf hr h3
  go_wp2_with (refine wpList_store_new rfl 27 _ _ rfl w2 #[.int .u16 0, .bool false, .int .i64 0, .int .u8 0, .int .u8 0, .int .u8 0, .int .u8 0, .int .u8 0, .int .u8 0, .int .u8 0, .int .u8 0, .int .u8 0, .int .u8 0, .slice none 0 0] cs rfl rfl (size_pk HS.out) HS.out.symm HO.out ?_)
  go_ret
  exact ⟨rfl, HB2.out⟩
end Go.Proofs.Ytbmjjhflaocgiaa
