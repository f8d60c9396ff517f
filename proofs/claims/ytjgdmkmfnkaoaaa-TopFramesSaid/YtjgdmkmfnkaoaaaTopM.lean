/-
  TopFrames: the pieces of a segment's bytes, packets and frames that bear them, a byte of one turned; what a row's store leaves of holes and packets. No program's walk, no condition.
-/
import Derived.Test.YtjgdmkmfnkaoaaaShapesS
import Derived.Test.YtjgdmkmfnkaoaaaVBuild
import Derived.Test.YtjgdmkmfnkaoaaaVParse
import Derived.Test.YtjgdmkmfnkaoaaaEBuild
import Derived.Test.YtjgdmkmfnkaoaaaEParse
import Derived.Test.YtjgdmkmfnkaoaaaFPlan
namespace Go.Proofs.Ytjgdmkmfnkaoaaa
open Go.RowKit

/-- a packet of frag's texts as one of ip4's -/
def toV (p : F.Pk) : Pk := ⟨p.id, p.more, p.off, p.ttl, p.proto, p.src, p.dst, p.data⟩
theorem pkv_toV {w : World} {lo hi : Nat} {cs : Array Value} {p : F.Pk} (h : F.PkV w lo hi cs p) : V.PkV w lo hi cs (toV p) := h
theorem pkv_toF {w : World} {lo hi : Nat} {cs : Array Value} {p : F.Pk} (h : V.PkV w lo hi cs (toV p)) : F.PkV w lo hi cs p := h

theorem piece_fine (q : F.Pk) (hq : q.ok) (m : Nat) (hm : m ≤ 5) : (toV (F.pieceP q m)).ok ∧ placedB (toV (F.pieceP q m)) = true ∧ (toV (F.pieceP q m)).data.length ≤ 176 := by
  refine ⟨hq, (placed_iff _).2 ⟨?_, ?_⟩, ?_⟩
  · show 0 ≤ ((176 * m : Nat) : Int) ∧ ((176 * m : Nat) : Int) ≤ 65528 ∧ ((176 * m : Nat) : Int) % 8 = 0
    omega
  · show decide (176 * (m + 1) < q.data.length) = true → ((q.data.drop (176 * m)).take 176).length % 8 = 0
    intro h
    have := of_decide_eq_true h
    rw [List.length_take, List.length_drop]
    omega
  · show ((q.data.drop (176 * m)).take 176).length ≤ 176
    rw [List.length_take]
    omega
theorem pieces_two (n : Nat) (h : n ≤ 180) : 0 < F.piecesN n ∧ F.piecesN n ≤ 2 := by
  unfold F.piecesN
  split <;> omega
/-- the frame that bears a packet's bytes -/
def frameOf (b : List UInt8) : E.Fr := ⟨[0, 0, 0, 0, 0, 0], [0, 0, 0, 0, 0, 0], 2048, b⟩
theorem frame_ok (b : List UInt8) : (frameOf b).ok := ⟨rfl, rfl, by show 2048 < 65536; omega⟩
theorem frame_back (b : List UInt8) (h : b.length ≤ 200) : E.buildS (frameOf b) = ((frameOf b).bytes, 0) ∧ E.parseS (frameOf b).bytes = (frameOf b, 0) := by
  have h1 : ¬ 200 < (frameOf b).b.length := by show ¬ 200 < b.length; omega
  have e : E.buildS (frameOf b) = ((frameOf b).bytes, 0) := by unfold E.buildS; rw [if_neg h1]
  have := E.parse_build (frame_ok b) h1
  rw [e] at this
  exact ⟨e, this⟩
theorem frame_bent (b : List UInt8) (h : b.length ≤ 200) (k : Nat) (z : UInt8) : E.parseS ((frameOf b).bytes.set (14 + k) z) = (E.frOf ((frameOf b).bytes.set (14 + k) z), 0) ∧ (E.frOf ((frameOf b).bytes.set (14 + k) z)).b = b.set k z := by
  have hl : ((frameOf b).bytes.set (14 + k) z).length = 14 + b.length := by rw [List.length_set]; exact E.Fr.bytes_length (frame_ok b)
  refine ⟨?_, ?_⟩
  · unfold E.parseS
    rw [if_neg (by omega), if_neg (by omega)]
  · have h2 : (frameOf b).bytes.drop 14 = b := congrArg E.Fr.b (E.frOf_bytes (frame_ok b))
    show ((frameOf b).bytes.set (14 + k) z).drop 14 = b.set k z
    rw [List.drop_set, if_neg (by omega), h2, Nat.add_sub_cancel_left]
theorem frc_one (f : E.Fr) (v : Value) (h : v.oneCell' = true) : (E.frC f v).toArray.all (·.oneCell') = true := by
  rw [Array.all_eq_true_iff_forall_mem]
  intro u hu
  rw [List.mem_toArray] at hu
  unfold E.frC at hu
  rcases List.mem_append.1 hu with hu | hu
  · rcases List.mem_append.1 hu with hu | hu
    · exact cells_one _ u hu
    · exact cells_one _ u hu
  · rcases List.mem_cons.1 hu with rfl | hu
    · rfl
    · rcases List.mem_cons.1 hu with rfl | hu
      · exact h
      · cases hu
theorem frame_get (b : List UInt8) (k : Nat) : (frameOf b).bytes.getD (14 + k) 0 = b.getD k 0 := by
  have h2 : (frameOf b).bytes.drop 14 = b := congrArg E.Fr.b (E.frOf_bytes (frame_ok b))
  conv => rhs; rw [← h2]
  rw [List.getD_eq_getElem?_getD, List.getD_eq_getElem?_getD, List.getElem?_drop]
/-- the cells of a packet that lies in a block -/
theorem pkv_cells {w : World} {lo hi g : Nat} {cs : Array Value} {p : Pk} (hg : w.heap[g]? = some (.cells cs 60 (0, 0))) (h : V.PkV w lo hi cs p) :
    ∃ A n c s0 s1 s2 s3 d0 d1 d2 d3, p.data.length = n ∧ p.src = [s0, s1, s2, s3] ∧ p.dst = [d0, d1, d2, d3] ∧ Rd w lo hi A (cells p.data) ∧
      w.cell? ⟨g, 0, none⟩ = some (.int .u16 (p.id : Int)) ∧ w.cell? ⟨g, 1, none⟩ = some (.bool p.more) ∧ w.cell? ⟨g, 2, none⟩ = some (.int .i64 p.off) ∧ w.cell? ⟨g, 3, none⟩ = some (.int .u8 (p.ttl.toNat : Int)) ∧ w.cell? ⟨g, 4, none⟩ = some (.int .u8 (p.proto.toNat : Int)) ∧
      w.cell? ⟨g, 5, none⟩ = some (.int .u8 (s0.toNat : Int)) ∧ w.cell? ⟨g, 6, none⟩ = some (.int .u8 (s1.toNat : Int)) ∧ w.cell? ⟨g, 7, none⟩ = some (.int .u8 (s2.toNat : Int)) ∧ w.cell? ⟨g, 8, none⟩ = some (.int .u8 (s3.toNat : Int)) ∧
      w.cell? ⟨g, 9, none⟩ = some (.int .u8 (d0.toNat : Int)) ∧ w.cell? ⟨g, 10, none⟩ = some (.int .u8 (d1.toNat : Int)) ∧ w.cell? ⟨g, 11, none⟩ = some (.int .u8 (d2.toNat : Int)) ∧ w.cell? ⟨g, 12, none⟩ = some (.int .u8 (d3.toNat : Int)) ∧ w.cell? ⟨g, 13, none⟩ = some (.slice A n c) := by
  obtain ⟨A, c, he, hok, _, hrd, _⟩ := h
  obtain ⟨id, mr, off, ttl, proto, src, dst, data⟩ := p
  obtain ⟨_, hs, hd⟩ := hok
  simp only at hs hd he hrd
  obtain ⟨s0, s1, s2, s3, rfl⟩ := four_of src hs
  obtain ⟨d0, d1, d2, d3, rfl⟩ := four_of dst hd
  subst he
  refine ⟨A, data.length, c, s0, s1, s2, s3, d0, d1, d2, d3, rfl, rfl, rfl, hrd, ?_, ?_, ?_, ?_, ?_, ?_, ?_, ?_, ?_, ?_, ?_, ?_, ?_, ?_⟩ <;> (rw [cell_of_row _ _ _ _ _ _ hg]; rfl)
theorem pk_ext {p q : Pk} (h1 : p.id = q.id) (h2 : p.more = q.more) (h3 : p.off = q.off) (h4 : p.ttl = q.ttl) (h5 : p.proto = q.proto) (h6 : p.src = q.src) (h7 : p.dst = q.dst) (h8 : p.data = q.data) : p = q :=
  (pkEq_iff p q).1 (decide_eq_true ⟨h1, h2, h3, h4, h5, h6, h7, h8⟩)
theorem turned_fine {p : Pk} (h : p.ok) (hp : placedB p = true) (hd : p.data.length ≤ 180) (k : Nat) (hk : k < 20) (z : UInt8) (hz : z ≠ p.bytes.getD k 0) : (parseP (p.bytes.set k z)).2 ≠ 0 ∨ (parseP (p.bytes.set k z)).1 ≠ p := by
  by_cases e : (parseP (p.bytes.set k z)).2 = 0
  · exact .inr (parse_turned h hp hd k hk z hz e)
  · exact .inl e
/-- a row of packets is written: holes stand -/
theorem hks_set {w : World} {v : Value} {hs : List F.Hk} {g : Nat} {C D : Array Value} (h : F.HksT w v hs) (hg : w.heap[g]? = some (.cells C 60 (0, 0))) : F.HksT (w.setRow g D) v hs := by
  obtain ⟨A, c, xs, e, htr, hrow, h3⟩ := h
  have hk : F.Keeps w (w.setRow g D) := F.Keeps.other hg (by decide) fun j hj => setRow_other _ _ _ _ hj
  exact ⟨A, c, xs, e, htr.setRow hg (by decide) _, hrow.imp fun _ _ _ hh => hh.keeps hk, h3⟩
theorem row_short {w : World} {ad : Addr} {C : Array Value} {t : TypeId} {fr : Nat × Nat} {u : Value} (h : w.heap[ad.block]? = some (.cells C t fr)) (hC : C.size = 14) : w.cell? (ad.add 14) ≠ some u := by
  have e : ad.add 14 = ⟨ad.block, ad.off + 14, none⟩ := by simp [Addr.add]
  rw [e, cell_of_row _ _ _ _ _ _ h, Array.getElem?_eq_none (by omega)]
  simp
/-- a row of fourteen cells is written: bytes that are more stand -/
theorem rd_set {w : World} {lo hi : Nat} {A : Option Addr} {xs : List Value} {g : Nat} {C D : Array Value} {t : TypeId} (h : Rd w lo hi A xs) (hx : 15 ≤ xs.length) (hg : w.heap[g]? = some (.cells C t (0, 0))) (hC : C.size = 14) : Rd (w.setRow g D) lo hi A xs := by
  intro k u hu
  obtain ⟨ad, e, h1, h2, h3⟩ := h k u hu
  obtain ⟨u14, hu14⟩ : ∃ u14, xs[14]? = some u14 := ⟨_, List.getElem?_eq_getElem (by omega)⟩
  obtain ⟨ad', e', _, _, h4⟩ := h 14 u14 hu14
  rw [e] at e'
  injection e' with e'
  subst e'
  refine ⟨ad, e, h1, h2, ?_⟩
  rw [World.cell?_of_block (setRow_other w g _ _ ?_)]
  · exact h3
  · rw [blk_add]
    rintro rfl
    exact row_short hg hC h4
theorem pkv_set {w : World} {lo hi : Nat} {cs : Array Value} {q : F.Pk} {g : Nat} {C D : Array Value} {t : TypeId} (h : F.PkV w lo hi cs q) (hx : 15 ≤ q.data.length) (hg : w.heap[g]? = some (.cells C t (0, 0))) (hC : C.size = 14) : F.PkV (w.setRow g D) lo hi cs q := by
  obtain ⟨A, c, e, h1, h2, h3, h4⟩ := h
  exact ⟨A, c, e, h1, h2, rd_set h3 (by rw [cells_length]; exact hx) hg hC, h4⟩
theorem ends_of_rep {w : World} {cs : List Value} (h : (Sh.rep 2 (.rep 4 (.num .u8))).ok w cs) : ∃ s0 s1 s2 s3 d0 d1 d2 d3 : UInt8, cs.toArray = #[.int .u8 (s0.toNat : Int), .int .u8 (s1.toNat : Int), .int .u8 (s2.toNat : Int), .int .u8 (s3.toNat : Int), .int .u8 (d0.toNat : Int), .int .u8 (d1.toNat : Int), .int .u8 (d2.toNat : Int), .int .u8 (d3.toNat : Int)] := by
  obtain ⟨h0, h1⟩ := h
  have a := h1 0 (by decide)
  have b := h1 1 (by decide)
  simp only [Sh.size, Nat.zero_mul, Nat.one_mul, Nat.mul_one, List.drop_zero] at a b h0
  obtain ⟨s, hs, e1⟩ := rep_bytes a
  obtain ⟨d, hd, e2⟩ := rep_bytes b
  obtain ⟨s0, s1, s2, s3, rfl⟩ := four_of s hs
  obtain ⟨d0, d1, d2, d3, rfl⟩ := four_of d hd
  have e3 : (cs.drop 4).take 4 = cs.drop 4 := List.take_of_length_le (by rw [List.length_drop]; omega)
  refine ⟨s0, s1, s2, s3, d0, d1, d2, d3, ?_⟩
  rw [← List.take_append_drop 4 cs, ← e3, e2, e1]
  rfl
theorem xor_ne (x y : UInt8) (h : y ≠ 0) : x ^^^ y ≠ x := by
  intro e
  apply h
  have h1 : x ^^^ (x ^^^ y) = y := by rw [← UInt8.xor_assoc, UInt8.xor_self, UInt8.zero_xor]
  rw [e, UInt8.xor_self] at h1
  exact h1.symm
theorem xor_byte (x y : UInt8) : bits .xor .u8 (x.toNat : Int) (y.toNat : Int) = ((x ^^^ y).toNat : Int) := by
  rw [u8_xor_nat _ _ x.toNat_lt y.toNat_lt, UInt8.toNat_xor]
theorem u64_range (z : Int) : 0 ≤ IntKind.u64.wrap z ∧ IntKind.u64.wrap z ≤ 18446744073709551615 := by
  rw [IntKind.wrap_u64]
  omega
theorem rem_small (z : Int) (n : Nat) (h : 0 < n) : ∃ k : Nat, z % (n : Int) = (k : Int) ∧ k ≤ n - 1 := by
  have h1 := Int.emod_nonneg z (show (n : Int) ≠ 0 by omega)
  have h2 := Int.emod_lt_of_pos z (show (0 : Int) < n by omega)
  exact ⟨(z % n).toNat, by omega, by omega⟩
end Go.Proofs.Ytjgdmkmfnkaoaaa
