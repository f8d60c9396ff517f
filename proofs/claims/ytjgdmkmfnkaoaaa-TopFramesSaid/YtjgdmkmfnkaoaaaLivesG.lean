/-
  segment.Build, segment.Open and the document's Build, whole; caravellaw09.lives: true. No condition.
-/
import Derived.Test.YtjgdmkmfnkaoaaaBuildS
import Derived.Test.YtjgdmkmfnkaoaaaOpenS
import Derived.Test.YtjgdmkmfnkaoaaaRefBS
import Derived.Test.YtjgdmkmfnkaoaaaFlag
namespace Go.Proofs.Ytjgdmkmfnkaoaaa
open Go.RowKit

theorem sbuild_any (cs : Array Value) (x : Sg) (s0 s1 s2 s3 d0 d1 d2 d3 : UInt8) (lo hi : Nat) (w : World) (h : SgC w lo hi cs x) (hhi : hi ≤ w.heap.size) :
    Calls Try.prog 11 #[.agg cs, .agg #[.int .u8 (s0.toNat : Int), .int .u8 (s1.toNat : Int), .int .u8 (s2.toNat : Int), .int .u8 (s3.toNat : Int)], .agg #[.int .u8 (d0.toNat : Int), .int .u8 (d1.toNat : Int), .int .u8 (d2.toNat : Int), .int .u8 (d3.toNat : Int)]] w (OwnPost w (sgBuild [s0, s1, s2, s3] [d0, d1, d2, d3] x)) := by
  unfold sgBuild
  by_cases hl : 156 < x.data.length
  · rw [if_pos hl]
    exact sbuild_long cs x _ _ _ _ _ _ _ _ lo hi w h hl
  · rw [if_neg hl]
    by_cases hm : x.may
    · rw [if_pos hm]
      exact sbuild_fits cs x _ _ _ _ _ _ _ _ lo hi w h hhi hl hm
    · rw [if_neg hm]
      exact sbuild_arg cs x _ _ _ _ _ _ _ _ lo hi w h hl hm
theorem rbuild_any (cs : Array Value) (x : Sg) (s0 s1 s2 s3 d0 d1 d2 d3 : UInt8) (lo hi : Nat) (w : World) (h : SgC w lo hi cs x) (hhi : hi ≤ w.heap.size) :
    Calls Try.prog 12 #[.agg cs, .agg #[.int .u8 (s0.toNat : Int), .int .u8 (s1.toNat : Int), .int .u8 (s2.toNat : Int), .int .u8 (s3.toNat : Int)], .agg #[.int .u8 (d0.toNat : Int), .int .u8 (d1.toNat : Int), .int .u8 (d2.toNat : Int), .int .u8 (d3.toNat : Int)]] w (TxtPost w (sgBuild [s0, s1, s2, s3] [d0, d1, d2, d3] x)) := by
  unfold sgBuild
  by_cases hl : 156 < x.data.length
  · rw [if_pos hl]
    exact rbuild_long cs x _ _ _ _ _ _ _ _ lo hi w h hl
  · rw [if_neg hl]
    by_cases hm : x.may
    · rw [if_pos hm]
      exact rbuild_fits cs x _ _ _ _ _ _ _ _ lo hi w h hhi hl hm
    · rw [if_neg hm]
      exact rbuild_arg cs x _ _ _ _ _ _ _ _ lo hi w h hl hm
theorem wpList_load_rowS {P : Program} {ops : Array Oper} {rest : List Oper} {o : Oper} {a : Act} {w : World} {Q : Exit → Act → World → Prop} (hg : Region.wanted o (yielded ops a.tmps) = true) (ty : TypeId) (x : Operand) (ho : o.op = .load ty x) (g : Nat) (hx : a.eval x = .pointer (some ⟨g, 0, none⟩))
    (t : TypeId) (cs : Array Value) (fr : Nat × Nat) (d : TypeDesc) (hgg : w.heap[g]? = some (.cells cs t fr)) (hu : P.underlying ty = some d) (hd : d.isRow = true) (hi : (P.info? ty).map (·.size) = some cs.size)
    (h : wpList P ops Q rest (a.put o.dst (.agg cs)) w) : wpList P ops Q (o :: rest) a w :=
  wpList_wanted hg fun _ hK => wp_load_row ty x ho g hx t cs fr d hgg hu (by cases d <;> first | rfl | cases hd) hi (hK _ _ h)

def exS : Sg := ⟨0, 0, 0, 0, 2, 0, 64, []⟩
theorem exS_ok : exS.ok := by unfold Sg.ok exS; simp
theorem exS_may : exS.may := ⟨by decide, fun _ => by decide⟩
def exC : Array Value := #[.int .u16 0, .int .u16 0, .int .u32 0, .int .u32 0, .int .u8 2, .int .u16 0, .int .u16 64, .slice none 0 0]
theorem exC_ok (w : World) (lo hi : Nat) : SgC w lo hi exC exS := ⟨none, 0, rfl, exS_ok, Rd.nil, Nat.le_refl _, Nat.zero_le _, fun _ => rfl⟩
set_option maxRecDepth 100000 in
set_option maxHeartbeats 4000000 in
theorem lives_any (w : World) : Calls Try.prog 10 #[] w fun e w' => e = .returned (.bool true) ∧ Below w.heap.size w w' := by
  have HB1 := Lib.hid ((Below.refl w.heap.size w).alloc (Nat.le_refl _) (.cells exC 26))
  have HX1 := Lib.hid (heap_alloc_new w (.cells exC 26))
  obtain ⟨w1, hw1⟩ : ∃ w1, w.alloc (.cells exC 26) = w1 := ⟨_, rfl⟩
  rw [hw1] at HB1 HX1
  have hbu := sbuild_any exC exS 0 0 0 0 0 0 0 0 0 0 w1 (exC_ok _ _ _) (Nat.zero_le _)
  have heb : sgBuild [0, 0, 0, 0] [0, 0, 0, 0] exS = (exS.bytes [0, 0, 0, 0] [0, 0, 0, 0], 0) := by unfold sgBuild; rw [if_neg (by decide), if_pos exS_may]
  rw [heb] at hbu
  have hop0 := sg_open_bytes (s := [0, 0, 0, 0]) (d := [0, 0, 0, 0]) exS_ok exS_may rfl rfl (by decide)
  have hlen : (exS.bytes [0, 0, 0, 0] [0, 0, 0, 0]).length = 24 := by rw [sg_length]; rfl
  generalize exS.bytes [0, 0, 0, 0] [0, 0, 0, 0] = bs at hbu hop0 hlen
  have HBU := Lib.hid hbu
  have HW1 := Lib.hid hw1
  unfold exC at HBU HX1 HW1
  clear hbu heb hw1
  go_enter Try.func10, Try.ntmps10
  go_wp2_with (first | refine wpList_store_newS rfl 26 _ _ rfl w #[.int .u16 0, .int .u16 0, .int .u32 0, .int .u32 0, .int .u8 0, .int .u16 0, .int .u16 0, .slice none 0 0] #[.int .u16 0, .int .u16 0, .int .u32 0, .int .u32 0, .int .u8 2, .int .u16 0, .int .u16 64, .slice none 0 0] rfl rfl (by kernel_rfl) rfl (by kernel_rfl) ?_ | refine wpList_load_row rfl 26 _ rfl w.heap.size rfl 26 #[.int .u16 0, .int .u16 0, .int .u32 0, .int .u32 0, .int .u8 2, .int .u16 0, .int .u16 64, .slice none 0 0] (0, 0) _ (heap_alloc_new w _) Try.underlying26 rfl (by kernel_rfl) ?_)
  try rw [HW1.out]
  refine HBU.out.mono ?_
  rintro e w2 ⟨A, c, rfl, ho, hb⟩
  have HB2 := Lib.hid (HB1.out.trans (hb.mono HB1.out.size))
  have HX2 := Lib.hid ((hb.block _ (row_lt HX1.out)).trans HX1.out)
  have hro := (Rd.own ho).wide (lo' := 0) (hi' := w2.heap.size) (Nat.zero_le _) (Nat.le_refl _)
  have hcap := own_cap ho
  simp only at hcap
  have hop := sopen_any A bs c 0 w2.heap.size 0 0 0 0 0 0 0 0 w2 hro (Nat.le_refl _) hcap.1 hcap.2
  rw [hop0, hlen] at hop
  rw [hlen]
  have HOP := Lib.hid hop
  clear ho hb hop hro hcap
  go_wp2_with fail
  refine HOP.out.mono ?_
  rintro e w3 ⟨cs, rfl, ⟨A2, c2, rfl, -, -⟩, hb3⟩
  have HB3 := Lib.hid (HB2.out.trans (hb3.mono HB2.out.size))
  have HX3 := Lib.hid ((hb3.block _ (row_lt HX2.out)).trans HX2.out)
  have HFL := Lib.hid (fun w => sflags_any 18 (by omega) w)
  have HF18 : Hid (flagsT 18 = [83, 65]) := by show _ = _; decide
  rw [HF18.out] at HFL
  have HLN := Lib.hid (fun w => len_any exC exS 0 0 w (exC_ok _ _ _) (by decide))
  unfold exC at HLN
  have HL1 : Hid (sgLen exS = 1) := rfl
  rw [HL1.out] at HLN
  clear hb3
  have e2 : (((exS).flags.toNat : Nat) : Int) = 2 := rfl
  have e64 : ((exS.mss : Nat) : Int) = 64 := rfl
  simp only [e2, e64]
  go_wp2_with fail
  refine (HFL.out _).mono ?_
  rintro e w4 ⟨rfl, hb4⟩
  have HB4 := Lib.hid ((HB3.out.alloc HB3.out.size _).trans (hb4.mono (by have := HB3.out.size; simp; omega)))
  have HX4 := Lib.hid ((hb4.block _ (row_lt (old_alloc HX3.out _))).trans (old_alloc HX3.out _))
  clear hb4
  unfold txt
  go_wp2_with (first | (refine wpList_load_rowS (by kernel_rfl) 26 _ rfl w.heap.size rfl 26 #[.int .u16 0, .int .u16 0, .int .u32 0, .int .u32 0, .int .u8 2, .int .u16 0, .int .u16 64, .slice none 0 0] (0, 0) _ HX4.out Try.underlying26 rfl (by kernel_rfl) ?_))
  refine (HLN.out _).mono ?_
  rintro e w5 ⟨rfl, hb5⟩
  have HB5 := Lib.hid (HB4.out.trans (hb5.mono HB4.out.size))
  clear hb5
  go_wp2
  go_ret
  exact ⟨rfl, HB5.out⟩
end Go.Proofs.Ytjgdmkmfnkaoaaa
