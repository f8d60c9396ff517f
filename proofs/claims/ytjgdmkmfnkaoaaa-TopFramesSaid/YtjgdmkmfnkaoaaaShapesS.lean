/-
  A segment, two hosts among a law's arguments, as the laws' frames tell of them; arrays read out of whatever place. No condition.
-/
import Derived.Test.YtjgdmkmfnkaoaaaLivesG
import Derived.Test.YtjgdmkmfnkaoaaaShape
namespace Go.Proofs.Ytjgdmkmfnkaoaaa
open Go.RowKit


/-- a struct, or an array, read out of whatever place -/
theorem run_loadVar_any {P : Program} (w : World) (ad : Addr) (ty : TypeId) (cs : List Value) (d : TypeDesc) (hc : ∀ j v, cs[j]? = some v → w.cell? (ad.add j) = some v)
    (hu : P.underlying ty = some d) (hd : d.isRow = true) (hi : (P.info? ty).map (·.size) = some cs.length) :
    (loadVar ty ad).run P w = .ok (.agg cs.toArray) w := by
  have hl : (loadCells ad cs.length).run P w = .ok cs.toArray w := run_loadCells_list (P := P) w ad cs hc
  cases hq : P.info? ty with
  | none => simp [hq] at hi
  | some i =>
    have hs : i.size = cs.length := by simpa [hq] using hi
    have hagg : (isAgg ty).run P w = .ok true w := by
      unfold isAgg
      rw [Sem.run_bind, run_underlying hu w]
      cases d <;> simp_all
    simp [loadVar, Sem.run_bind, hagg, sizeOf, typeInfo, hq, hs, hl]
theorem wp_load_at {P : Program} {op : Oper} {a : Act} {w : World} {K : Act → World → Prop} {Q : Exit → Act → World → Prop} (ty : TypeId) (x : Operand) (ho : op.op = .load ty x)
    (ad : Addr) (hx : a.eval x = .pointer (some ad)) (cs : List Value) (d : TypeDesc) (hc : ∀ j v, cs[j]? = some v → w.cell? (ad.add j) = some v)
    (hu : P.underlying ty = some d) (hd : d.isRow = true) (hi : (P.info? ty).map (·.size) = some cs.length)
    (h : K (a.put op.dst (.agg cs.toArray)) w) : op.wp P a w K Q := by
  unfold Oper.wp execOp
  simp only [ho, hx, Instr.loadAt, Instr.sureAddr, Sem.run_bind, Sem.run_pure, Result.andThen_ok, run_loadVar_any w ad ty cs d hc hu hd hi]
  exact h
theorem wpList_load_at {P : Program} {ops : Array Oper} {rest : List Oper} {op : Oper} {a : Act} {w : World} {Q : Exit → Act → World → Prop} (hgd : op.guard = none) (ty : TypeId) (x : Operand) (ho : op.op = .load ty x)
    (ad : Addr) (hx : a.eval x = .pointer (some ad)) (cs : List Value) (d : TypeDesc) (hc : ∀ j v, cs[j]? = some v → w.cell? (ad.add j) = some v)
    (hu : P.underlying ty = some d) (hd : d.isRow = true) (hi : (P.info? ty).map (·.size) = some cs.length)
    (h : wpList P ops Q rest (a.put op.dst (.agg cs.toArray)) w) : wpList P ops Q (op :: rest) a w :=
  wpList_plain hgd fun _ hK => wp_load_at ty x ho ad hx cs d hc hu hd hi (hK _ _ h)
theorem u16_of {z : Int} (h : (Lit.int .u16 z).wf = true) : ∃ n : Nat, z = (n : Int) ∧ n < 65536 := by
  have hb : 0 ≤ z ∧ z ≤ 65535 := by
    simp [Lit.wf, IntKind.min, IntKind.max, IntKind.signed, IntKind.bits] at h
    omega
  obtain ⟨n, rfl⟩ := Int.eq_ofNat_of_zero_le hb.1
  exact ⟨n, rfl, by omega⟩
theorem u8_of_wf {z : Int} (h : (Lit.int .u8 z).wf = true) : ∃ y : UInt8, z = (y.toNat : Int) := by
  have hb : 0 ≤ z ∧ z ≤ 255 := by
    simp [Lit.wf, IntKind.min, IntKind.max, IntKind.signed, IntKind.bits] at h
    omega
  exact ⟨UInt8.ofNat z.toNat, by rw [u8_of]; omega⟩
theorem sl_of {w : World} {cs : List Value} (h : (Sh.sl (.num .u8)).ok w cs) : ∃ A l c, cs = [.slice A l.length c] ∧ Rd w 0 w.heap.size A (cells l) ∧ l.length ≤ c ∧ c ≤ maxLen ∧ (A = none → c = 0) := by
  obtain ⟨A, len, cap, rfl⟩ : ∃ A len cap, cs = [.slice A len cap] := by
    rcases h with rfl | ⟨ad, len, cap, rfl, _⟩
    · exact ⟨none, 0, 0, rfl⟩
    · exact ⟨some ad, len, cap, rfl⟩
  obtain ⟨l, hl, hc, hm, hr, hA⟩ := sl_bytes h
  exact ⟨A, l, cap, by rw [hl], hr, by omega, by unfold maxLen; omega, hA⟩
theorem u32_of {z : Int} (h : (Lit.int .u32 z).wf = true) : ∃ n : Nat, z = (n : Int) ∧ n < 4294967296 := by
  have hb : 0 ≤ z ∧ z ≤ 4294967295 := by
    simp [Lit.wf, IntKind.min, IntKind.max, IntKind.signed, IntKind.bits] at h
    omega
  obtain ⟨n, rfl⟩ := Int.eq_ofNat_of_zero_le hb.1
  exact ⟨n, rfl, by omega⟩
theorem sg_of_ok {w : World} {cs : List Value} (h : (Sh.cat (.num .u16) (.cat (.num .u16) (.cat (.num .u32) (.cat (.num .u32) (.cat (.num .u8) (.cat (.num .u16) (.cat (.num .u16) (.cat (.sl (.num .u8)) .non)))))))).ok w cs) : ∃ x : Sg, SgC w 0 w.heap.size cs.toArray x := by
  obtain ⟨c1, c2, rfl, ⟨a, rfl, ha⟩, c3, c4, rfl, ⟨b, rfl, hb⟩, c5, c6, rfl, ⟨q, rfl, hq⟩, c7, c8, rfl, ⟨k, rfl, hk⟩, c9, c10, rfl, ⟨f, rfl, hf⟩, c11, c12, rfl, ⟨v, rfl, hv⟩, c13, c14, rfl, ⟨m, rfl, hm⟩, c15, c16, rfl, h7, rfl⟩ := h
  obtain ⟨a, rfl, ha2⟩ := u16_of ha
  obtain ⟨b, rfl, hb2⟩ := u16_of hb
  obtain ⟨q, rfl, hq2⟩ := u32_of hq
  obtain ⟨k, rfl, hk2⟩ := u32_of hk
  obtain ⟨f, rfl⟩ := u8_of_wf hf
  obtain ⟨v, rfl, hv2⟩ := u16_of hv
  obtain ⟨m, rfl, hm2⟩ := u16_of hm
  obtain ⟨A, l, c, rfl, hr⟩ := sl_of h7
  exact ⟨⟨a, b, q, k, f, v, m, l⟩, A, c, rfl, ⟨ha2, hb2, hq2, hk2, hv2, hm2⟩, hr⟩
theorem SgC.one {w : World} {lo hi : Nat} {cs : Array Value} {x : Sg} (h : SgC w lo hi cs x) : cs.size = 8 ∧ cs.all (·.oneCell') = true := by
  obtain ⟨A, c, rfl, _⟩ := h
  exact ⟨rfl, by kernel_rfl⟩
theorem ends_of_ok {w : World} {cs : List Value} (h : (Sh.cat (.rep 4 (.num .u8)) (.cat (.rep 4 (.num .u8)) .non)).ok w cs) : ∃ s0 s1 s2 s3 d0 d1 d2 d3 : UInt8, cs.toArray = #[.int .u8 (s0.toNat : Int), .int .u8 (s1.toNat : Int), .int .u8 (s2.toNat : Int), .int .u8 (s3.toNat : Int), .int .u8 (d0.toNat : Int), .int .u8 (d1.toNat : Int), .int .u8 (d2.toNat : Int), .int .u8 (d3.toNat : Int)] := by
  obtain ⟨c1, c2, rfl, h1, c3, c4, rfl, h3, rfl⟩ := h
  obtain ⟨s, hs, rfl⟩ := rep_bytes h1
  obtain ⟨d, hd, rfl⟩ := rep_bytes h3
  obtain ⟨s0, s1, s2, s3, rfl⟩ := four_of s hs
  obtain ⟨d0, d1, d2, d3, rfl⟩ := four_of d hd
  exact ⟨s0, s1, s2, s3, d0, d1, d2, d3, rfl⟩
/-- two hosts in a block -/
theorem ends_at {w : World} {b : Nat} {s0 s1 s2 s3 d0 d1 d2 d3 : UInt8} {t : TypeId} (h : w.heap[b]? = some (.cells #[.int .u8 (s0.toNat : Int), .int .u8 (s1.toNat : Int), .int .u8 (s2.toNat : Int), .int .u8 (s3.toNat : Int), .int .u8 (d0.toNat : Int), .int .u8 (d1.toNat : Int), .int .u8 (d2.toNat : Int), .int .u8 (d3.toNat : Int)] t (0, 0))) :
    (∀ j v, ([.int .u8 (s0.toNat : Int), .int .u8 (s1.toNat : Int), .int .u8 (s2.toNat : Int), .int .u8 (s3.toNat : Int)] : List Value)[j]? = some v → w.cell? ((⟨b, 0, none⟩ : Addr).add j) = some v) ∧ ∀ j v, ([.int .u8 (d0.toNat : Int), .int .u8 (d1.toNat : Int), .int .u8 (d2.toNat : Int), .int .u8 (d3.toNat : Int)] : List Value)[j]? = some v → w.cell? ((⟨b, 4, none⟩ : Addr).add j) = some v := by
  constructor
  · exact loads_of (rd_mid h (fun k u hu => by
      have hk := (List.getElem?_eq_some_iff.1 hu).1
      match k, hk with
      | 0, _ => exact hu
      | 1, _ => exact hu
      | 2, _ => exact hu
      | 3, _ => exact hu))
  · exact loads_of (rd_mid h (fun k u hu => by
      have hk := (List.getElem?_eq_some_iff.1 hu).1
      match k, hk with
      | 0, _ => exact hu
      | 1, _ => exact hu
      | 2, _ => exact hu
      | 3, _ => exact hu))
end Go.Proofs.Ytjgdmkmfnkaoaaa
