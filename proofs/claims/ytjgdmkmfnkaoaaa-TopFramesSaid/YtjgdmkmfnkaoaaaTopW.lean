/-
  The law TopFrames, walked: every segment, every two hosts, every two ints. No condition.
-/
import Derived.Test.YtjgdmkmfnkaoaaaTopM
import Derived.Deep.DeepCutAuto
import Derived.Deep.LoopGhost
import Derived.WalkMore
namespace Go.Proofs.Ytjgdmkmfnkaoaaa
open Go.RowKit

set_option maxRecDepth 100000 in
set_option maxHeartbeats 8000000 in
theorem frames_any (cs : Array Value) (x : Sg) (s0 s1 s2 s3 d0 d1 d2 d3 : UInt8) (a b : Int) (w : World) (hx : SgC w 0 w.heap.size cs x) :
    Calls Try.prog 9 #[.agg cs, .agg #[.int .u8 (s0.toNat : Int), .int .u8 (s1.toNat : Int), .int .u8 (s2.toNat : Int), .int .u8 (s3.toNat : Int), .int .u8 (d0.toNat : Int), .int .u8 (d1.toNat : Int), .int .u8 (d2.toNat : Int), .int .u8 (d3.toNat : Int)], .agg #[.int .i64 a, .int .i64 b]] w fun e w' => e = .returned (.bool true) ∧ Below w.heap.size w w' := by
  have hx2 := hx
  obtain ⟨A, c, rfl, hok, hrd, hlc, hcm, hA⟩ := hx2
  obtain ⟨n, hn⟩ : ∃ n, x.data.length = n := ⟨_, rfl⟩
  rw [hn] at hx hlc ⊢
  obtain ⟨w1, hw1⟩ : ∃ w1, ((w.alloc (.cells #[.int .u16 (x.src : Int), .int .u16 (x.dst : Int), .int .u32 (x.seq : Int), .int .u32 (x.ack : Int), .int .u8 (x.flags.toNat : Int), .int .u16 (x.wnd : Int), .int .u16 (x.mss : Int), .slice A n c] 26)).alloc (.cells #[.int .u8 (s0.toNat : Int), .int .u8 (s1.toNat : Int), .int .u8 (s2.toNat : Int), .int .u8 (s3.toNat : Int), .int .u8 (d0.toNat : Int), .int .u8 (d1.toNat : Int), .int .u8 (d2.toNat : Int), .int .u8 (d3.toNat : Int)] 54)).alloc (.cells #[.int .i64 a, .int .i64 b] 55) = w1 := ⟨_, rfl⟩
  have HB1 : Hid (Below w.heap.size w w1) := by show Below _ _ _; rw [← hw1]; exact (((Below.refl _ _).alloc (Nat.le_refl _) _).alloc (by simp) _).alloc (by simp; omega) _
  have HX1 : Hid (w1.heap[w.heap.size]? = some (.cells #[.int .u16 (x.src : Int), .int .u16 (x.dst : Int), .int .u32 (x.seq : Int), .int .u32 (x.ack : Int), .int .u8 (x.flags.toNat : Int), .int .u16 (x.wnd : Int), .int .u16 (x.mss : Int), .slice A n c] 26 (0, 0))) := by show _ = _; rw [← hw1]; exact old_alloc (old_alloc (heap_alloc_new w _) _) _
  have HE1 : Hid (w1.heap[w.heap.size + 1]? = some (.cells #[.int .u8 (s0.toNat : Int), .int .u8 (s1.toNat : Int), .int .u8 (s2.toNat : Int), .int .u8 (s3.toNat : Int), .int .u8 (d0.toNat : Int), .int .u8 (d1.toNat : Int), .int .u8 (d2.toNat : Int), .int .u8 (d3.toNat : Int)] 54 (0, 0))) := by
    have := heap_alloc_new (w.alloc (.cells #[.int .u16 (x.src : Int), .int .u16 (x.dst : Int), .int .u32 (x.seq : Int), .int .u32 (x.ack : Int), .int .u8 (x.flags.toNat : Int), .int .u16 (x.wnd : Int), .int .u16 (x.mss : Int), .slice A n c] 26)) (.cells #[.int .u8 (s0.toNat : Int), .int .u8 (s1.toNat : Int), .int .u8 (s2.toNat : Int), .int .u8 (s3.toNat : Int), .int .u8 (d0.toNat : Int), .int .u8 (d1.toNat : Int), .int .u8 (d2.toNat : Int), .int .u8 (d3.toNat : Int)] 54)
    rw [World.size_alloc] at this
    show _ = _
    rw [← hw1]
    exact old_alloc this _
  have HT1 : Hid (w1.heap[w.heap.size + 2]? = some (.cells #[.int .i64 a, .int .i64 b] 55 (0, 0))) := by
    have := heap_alloc_new ((w.alloc (.cells #[.int .u16 (x.src : Int), .int .u16 (x.dst : Int), .int .u32 (x.seq : Int), .int .u32 (x.ack : Int), .int .u8 (x.flags.toNat : Int), .int .u16 (x.wnd : Int), .int .u16 (x.mss : Int), .slice A n c] 26)).alloc (.cells #[.int .u8 (s0.toNat : Int), .int .u8 (s1.toNat : Int), .int .u8 (s2.toNat : Int), .int .u8 (s3.toNat : Int), .int .u8 (d0.toNat : Int), .int .u8 (d1.toNat : Int), .int .u8 (d2.toNat : Int), .int .u8 (d3.toNat : Int)] 54)) (.cells #[.int .i64 a, .int .i64 b] 55)
    rw [World.size_alloc, World.size_alloc] at this
    show _ = _
    rw [← hw1]
    exact this
  have HW1 := Lib.hid hw1
  have HX := Lib.hid hx
  have HN := Lib.hid hn
  have HOK := Lib.hid hok
  unfold maxLen at hcm
  clear hx hn hok hrd hA hw1
  by_cases hbig : 300 < n
  · go_enter Try.func9, Try.ntmps9
    go_wp2
    go_ret
    rw [HW1.out]
    exact ⟨rfl, HB1.out⟩
  go_enter Try.func9, Try.ntmps9
  go_upto_region 3 with fail
  rw [HW1.out]
  go_wp2_with (first | refine wpList_load_row rfl 26 _ rfl w.heap.size rfl 26 #[.int .u16 (x.src : Int), .int .u16 (x.dst : Int), .int .u32 (x.seq : Int), .int .u32 (x.ack : Int), .int .u8 (x.flags.toNat : Int), .int .u16 (x.wnd : Int), .int .u16 (x.mss : Int), .slice A n c] (0, 0) _ HX1.out Try.underlying26 rfl (by kernel_rfl) ?_ | refine wpList_load_at rfl 28 _ rfl ⟨w.heap.size + 1, 0, none⟩ rfl ([.int .u8 (s0.toNat : Int), .int .u8 (s1.toNat : Int), .int .u8 (s2.toNat : Int), .int .u8 (s3.toNat : Int)]) _ (ends_at HE1.out).1 Try.underlying28 rfl (by kernel_rfl) ?_ | refine wpList_load_at rfl 28 _ rfl ⟨w.heap.size + 1, 4, none⟩ rfl ([.int .u8 (d0.toNat : Int), .int .u8 (d1.toNat : Int), .int .u8 (d2.toNat : Int), .int .u8 (d3.toNat : Int)]) _ (ends_at HE1.out).2 Try.underlying28 rfl (by kernel_rfl) ?_)
  have hbu := sbuild_any _ x s0 s1 s2 s3 d0 d1 d2 d3 0 w.heap.size w1 (HX.out.below HB1.out (Nat.le_refl _)) HB1.out.size
  have hcase : (sgBuild [s0, s1, s2, s3] [d0, d1, d2, d3] x = (x.bytes [s0, s1, s2, s3] [d0, d1, d2, d3], 0) ∧ sgOpen [s0, s1, s2, s3] [d0, d1, d2, d3] (x.bytes [s0, s1, s2, s3] [d0, d1, d2, d3]) = (x, 0) ∧ 20 ≤ (x.bytes [s0, s1, s2, s3] [d0, d1, d2, d3]).length ∧ (x.bytes [s0, s1, s2, s3] [d0, d1, d2, d3]).length ≤ 180) ∨ (∃ z : Int, z ≠ 0 ∧ sgBuild [s0, s1, s2, s3] [d0, d1, d2, d3] x = ([], z)) := by
    unfold sgBuild
    by_cases h9 : 156 < x.data.length
    · exact .inr ⟨4, by decide, if_pos h9⟩
    · rw [if_neg h9]
      by_cases hm : x.may
      · refine .inl ⟨if_pos hm, sg_open_bytes HOK.out hm rfl rfl ?_, ?_, ?_⟩
        · have := (size_le x).2; omega
        · rw [sg_length]; have := (size_le x).1; omega
        · rw [sg_length]; have := (size_le x).2; omega
      · exact .inr ⟨1, by decide, if_neg hm⟩
  rcases hcase with ⟨h1, h2, h3, h4⟩ | ⟨z, hz, h1⟩
  rotate_left
  · rw [h1] at hbu
    have HBU := Lib.hid hbu
    have q0 := bneT hz
    clear hbu h1
    refine HBU.out.mono ?_
    rintro e w2 ⟨A5, c5, rfl, ho, hb2⟩
    simp only
    have HB2 := Lib.hid (HB1.out.trans (hb2.mono HB1.out.size))
    clear ho hb2
    go_wp2
    go_ret
    exact ⟨rfl, HB2.out⟩
  rw [h1] at hbu
  obtain ⟨bs, hbs⟩ : ∃ bs, x.bytes [s0, s1, s2, s3] [d0, d1, d2, d3] = bs := ⟨_, rfl⟩
  rw [hbs] at hbu h2 h3 h4
  obtain ⟨L, hL⟩ : ∃ L, bs.length = L := ⟨_, rfl⟩
  rw [hL] at h3 h4
  have HOP := Lib.hid h2
  have HL := Lib.hid hL
  have HBU := Lib.hid hbu
  have hL20 := h3
  have hL180 := h4
  clear hbu h1 h2 h3 h4 hbs hL
  refine HBU.out.mono ?_
  rintro e w2 ⟨A5, c5, rfl, ho, hb2⟩
  simp only at ho ⊢
  rw [HL.out]
  unfold OwnB at ho
  rw [HL.out] at ho
  have HX2 := Lib.hid ((hb2.block _ (row_lt HX1.out)).trans HX1.out)
  have HE2 := Lib.hid ((hb2.block _ (row_lt HE1.out)).trans HE1.out)
  have HT2 := Lib.hid ((hb2.block _ (row_lt HT1.out)).trans HT1.out)
  have HB2 := Lib.hid (HB1.out.trans (hb2.mono HB1.out.size))
  have HRO := Lib.hid ((Rd.own ho).wide (lo' := 0) (Nat.zero_le _) (Nat.le_refl _))
  have hcap := own_cap ho
  have hA5 : A5 = none → c5 = 0 := fun e => by
    obtain ⟨ad, e2, _⟩ := (Rd.own ho).byte (k := 0) (by rw [HL.out]; omega)
    rw [e] at e2
    cases e2
  obtain ⟨q, hq⟩ : ∃ q : F.Pk, q = ⟨7, false, 0, 64, 6, [s0, s1, s2, s3], [d0, d1, d2, d3], bs⟩ := ⟨_, rfl⟩
  have hqf : q.ok ∧ q.off = 0 ∧ q.more = false ∧ q.data = bs ∧ q.src = [s0, s1, s2, s3] ∧ q.dst = [d0, d1, d2, d3] := by subst hq; exact ⟨⟨by show 7 < 65536; omega, rfl, rfl⟩, rfl, rfl, rfl, rfl, rfl⟩
  have hqv : F.PkV w2 0 w2.heap.size #[.int .u16 7, .bool false, .int .i64 0, .int .u8 64, .int .u8 6, .int .u8 (s0.toNat : Int), .int .u8 (s1.toNat : Int), .int .u8 (s2.toNat : Int), .int .u8 (s3.toNat : Int), .int .u8 (d0.toNat : Int), .int .u8 (d1.toNat : Int), .int .u8 (d2.toNat : Int), .int .u8 (d3.toNat : Int), .slice A5 L c5] q := by
    refine ⟨A5, c5, ?_, hqf.1, by rw [hqf.2.1]; omega, by rw [hqf.2.2.2.1]; exact HRO.out, by rw [hqf.2.2.2.1, HL.out]; exact hcap.1, hcap.2, hA5⟩
    subst hq
    show _ = (F.pkC _ (.slice A5 bs.length c5)).toArray
    rw [HL.out]
    rfl
  have HQF := Lib.hid hqf
  have HQV := Lib.hid hqv
  have HQD : Hid (q.data.length = L) := by show _ = _; rw [hqf.2.2.2.1]; exact HL.out
  have HSP : Hid (F.splitP q = (F.splitL q (F.piecesN L), 0)) := by
    show _ = _
    unfold F.splitP
    rw [if_neg (by rw [hqf.2.1, hqf.2.2.1]; simp), HQD.out, if_neg (by omega)]
  have HQ := Lib.hid hq
  clear ho hb2 hcap hA5 hq hqf hqv HBU
  go_wp2_with (first | refine wpList_load_at rfl 28 _ rfl ⟨w.heap.size + 1, 0, none⟩ rfl ([.int .u8 (s0.toNat : Int), .int .u8 (s1.toNat : Int), .int .u8 (s2.toNat : Int), .int .u8 (s3.toNat : Int)]) _ (ends_at HE2.out).1 Try.underlying28 rfl (by kernel_rfl) ?_ | refine wpList_load_at rfl 28 _ rfl ⟨w.heap.size + 1, 4, none⟩ rfl ([.int .u8 (d0.toNat : Int), .int .u8 (d1.toNat : Int), .int .u8 (d2.toNat : Int), .int .u8 (d3.toNat : Int)]) _ (ends_at HE2.out).2 Try.underlying28 rfl (by kernel_rfl) ?_)
  refine (F.split_any #[.int .u16 7, .bool false, .int .i64 0, .int .u8 64, .int .u8 6, .int .u8 (s0.toNat : Int), .int .u8 (s1.toNat : Int), .int .u8 (s2.toNat : Int), .int .u8 (s3.toNat : Int), .int .u8 (d0.toNat : Int), .int .u8 (d1.toNat : Int), .int .u8 (d2.toNat : Int), .int .u8 (d3.toNat : Int), .slice A5 L c5] q 0 w2.heap.size w2 HQV.out (Nat.le_refl _)).mono ?_
  rintro e w3 ⟨v, rfl, hv, hb3⟩
  rw [HSP.out] at hv ⊢
  simp only at hv ⊢
  obtain ⟨xs, hown, hrow⟩ := hv
  rw [F.splitL_length] at hown
  have hN := pieces_two L hL180
  obtain ⟨g, cc, cur, rfl, _⟩ := F.ownk_some hown hN.1
  obtain ⟨ad, had⟩ : ∃ ad : Addr, ad = ⟨g, 0, none⟩ := ⟨_, rfl⟩
  have hrdx := (F.Tr.own hown).rd
  rw [← had] at hrdx ⊢
  have HX3 := Lib.hid ((hb3.block _ (row_lt HX2.out)).trans HX2.out)
  have HT3 := Lib.hid ((hb3.block _ (row_lt HT2.out)).trans HT2.out)
  have HB3 := Lib.hid (HB2.out.trans (hb3.mono HB2.out.size))
  have HRX := Lib.hid (hrdx.wide (Nat.zero_le _) (Nat.le_refl _))
  have HROW := Lib.hid hrow
  obtain ⟨N, hNN⟩ : ∃ N, F.piecesN L = N := ⟨_, rfl⟩
  rw [hNN] at hN HROW ⊢
  have HNN := Lib.hid hNN
  obtain ⟨hN0, hN2⟩ := hN
  obtain ⟨st, hst⟩ := F.plan_any q (by rw [HQD.out]; omega) HQF.out.2.1 HQF.out.2.2.1 0 (by rw [HQD.out, HNN.out]; exact hN0)
  rw [HQD.out, HNN.out] at hst
  have HST := Lib.hid hst
  have HPO : Hid (∀ m, m < N → 0 ≤ (F.pieceP q m).off ∧ F.endP (F.pieceP q m) ≤ 1000 ∧ (((F.pieceP q m).off = 0 ∧ (F.pieceP q m).more = false) ∨ F.formedB (F.pieceP q m) = true)) := fun m hm => F.piece_ok q (by rw [HQD.out]; omega) m (by rw [HQD.out, HNN.out]; exact hm)
  have HPF : Hid (∀ m, m < N → (toV (F.pieceP q m)).ok ∧ placedB (toV (F.pieceP q m)) = true ∧ (toV (F.pieceP q m)).data.length ≤ 176) := fun m hm => piece_fine q HQF.out.1 m (by omega)
  have HZ3 : Hid (w.heap.size + 2 < w3.heap.size) := row_lt HT3.out
  clear hb3 hown hrow had hrdx hNN hst
  go_wp2_with fail
  go_loopw [10, 72] (fun t10 t72 wr => ∃ (i : Nat) (C : Array Value), i ≤ N ∧ t72 = .int .i64 (i : Int) ∧ Hid (F.HksT wr t10 (if i = N then [] else st i)) ∧ Hid (Below w3.heap.size w3 wr) ∧ Hid (wr.heap[w3.heap.size]? = some (.cells C 60 (0, 0))) ∧ Hid (C.size = 14) ∧ Hid (i = N → F.PkV wr 0 wr.heap.size C q)) (fun _ t72 _ => N - (intOf t72).toNat)
  case atStart => exact ⟨0, #[.int .u16 0, .bool false, .int .i64 0, .int .u8 0, .int .u8 0, .int .u8 0, .int .u8 0, .int .u8 0, .int .u8 0, .int .u8 0, .int .u8 0, .int .u8 0, .int .u8 0, .slice none 0 0], Nat.zero_le _, rfl, Lib.hid (by rw [if_neg (by omega), HST.out.zero]; exact ⟨none, 0, [], rfl, F.Tr.nil, F.RowOf.nil, Nat.le_refl _, Nat.zero_le _, fun _ => rfl⟩), Lib.hid ((Below.refl _ _).alloc (Nat.le_refl _) _), Lib.hid (heap_alloc_new w3 _), Lib.hid rfl, Lib.hid (fun e => by omega)⟩
  case round =>
    obtain ⟨i, C, hiN, rfl, HH9, HBR, HC, HCS, HCV⟩ := hrel
    generalize u10 = v9 at HH9 ⊢
    by_cases hlt : i < N
    · obtain ⟨m, hm⟩ : ∃ m, N - 1 - i = m := ⟨_, rfl⟩
      have hmN : m < N := by omega
      have r2 : (N : Int) - 1 - (i : Int) = (m : Int) := by omega
      have HMI : Hid (N - 1 - (i + 0) % N = m) := by show _ = _; rw [Nat.add_zero, Nat.mod_eq_of_lt hlt]; exact hm
      have hnl : (N : Int) ≤ 2 := by omega
      obtain ⟨p, hp⟩ : ∃ p, F.pieceP q m = p := ⟨_, rfl⟩
      have HRP : Hid (F.PkT w3 w2.heap.size ((xs.drop (m * 14)).take 14) p) := by show F.PkT _ _ _ _; rw [← hp]; exact HROW.out.2 m _ (by simp [F.splitL, hmN])
      obtain ⟨ds, hds⟩ : ∃ ds, (xs.drop (m * 14)).take 14 = ds := ⟨_, rfl⟩
      rw [hds] at HRP
      have HEL : Hid (∀ j v, ds[j]? = some v → wr.cell? ((ad.add (m * 14)).add j) = some v) := by
        rw [← hds]
        exact ((HRX.out.below HBR.out (Nat.le_refl _)).elem m)
      rw [if_neg (by omega)] at HH9
      have hpo := HPO.out m hmN
      have hpf := HPF.out m hmN
      have hnew := HST.out.new i hlt
      rw [hp] at hpo hpf
      rw [HMI.out, hp] at hnew
      have HNEW := Lib.hid hnew
      have HPO2 := Lib.hid hpo
      obtain ⟨pv, hpv⟩ : ∃ pv, toV p = pv := ⟨_, rfl⟩
      have HPV := Lib.hid hpv
      rw [hpv] at hpf
      have HPF2 := Lib.hid hpf
      have HVV : Hid (V.PkV w3 w2.heap.size w3.heap.size ds.toArray pv) := by show V.PkV _ _ _ _ _; rw [← hpv]; exact pkv_toV HRP.out.pkV
      obtain ⟨pb, hpb⟩ : ∃ pb, pv.bytes = pb := ⟨_, rfl⟩
      have hpl := bytes_length hpf.1
      rw [hpb] at hpl
      obtain ⟨pl, hpl2⟩ : ∃ pl, pb.length = pl := ⟨_, rfl⟩
      rw [hpl2] at hpl
      have hpl20 : 20 ≤ pl := by omega
      have hpl196 : pl ≤ 196 := by have := hpf.2.2; omega
      have HPL := Lib.hid hpl2
      have HPB := Lib.hid hpb
      have HBP : Hid (buildP pv = (pb, 0)) := by show _ = _; unfold buildP; rw [if_pos hpf.2.1, if_neg (by have := hpf.2.2; omega), hpb]
      have HPP : Hid (parseP pb = (pv, 0)) := by
        have := parse_bytes hpf.1 hpf.2.1 (by have := hpf.2.2; omega) []
        rw [List.append_nil, hpb] at this
        exact this
      obtain ⟨hfb1, hfb2⟩ := frame_back pb (by rw [hpl2]; omega)
      obtain ⟨fb, hfb⟩ : ∃ fb, (frameOf pb).bytes = fb := ⟨_, rfl⟩
      have hfl := E.Fr.bytes_length (frame_ok pb)
      rw [hfb] at hfb1 hfb2 hfl
      obtain ⟨fl, hfl2⟩ : ∃ fl, fb.length = fl := ⟨_, rfl⟩
      have hflp : fl = 14 + pl := by rw [← hfl2, hfl]; show 14 + pb.length = _; rw [hpl2]
      have HFL := Lib.hid hfl2
      have HFB := Lib.hid hfb
      have HFB1 := Lib.hid hfb1
      have HFB2 := Lib.hid hfb2
      have hfl1 : 34 ≤ fl := by omega
      have hfl2' : fl ≤ 210 := by omega
      have HFLP := Lib.hid hflp
      clear hm hp hds hpo hpf hnew hpv hpl hpl2 hpb hfb hfb1 hfb2 hfl hfl2 hflp
      go_wp2_with (first | refine wpList_load_at rfl 60 _ rfl (ad.add (m * 14)) rfl ds _ HEL.out Try.underlying60 rfl (by rw [HRP.out.len]; kernel_rfl) ?_)
      refine (V.build_any ds.toArray pv wr w2.heap.size w3.heap.size (HVV.out.below HBR.out (Nat.le_refl _)) HBR.out.size).mono ?_
      rw [HBP.out]
      rintro e w4 ⟨A6, c6, rfl, ho6, hb4⟩
      simp only at ho6 ⊢
      unfold OwnB at ho6
      rw [HPL.out] at ho6 ⊢
      have HFV : Hid (E.FrV w4 0 w4.heap.size #[.int .u8 0, .int .u8 0, .int .u8 0, .int .u8 0, .int .u8 0, .int .u8 0, .int .u8 0, .int .u8 0, .int .u8 0, .int .u8 0, .int .u8 0, .int .u8 0, .int .u16 2048, .slice A6 pl c6] (frameOf pb)) := by
        refine ⟨A6, c6, ?_, frame_ok pb, (Rd.own ho6).wide (Nat.zero_le _) (Nat.le_refl _), by show pb.length ≤ _; rw [HPL.out]; exact (own_cap ho6).1, (own_cap ho6).2, fun e => ?_⟩
        · show _ = (E.frC (frameOf pb) (.slice A6 pb.length c6)).toArray
          rw [HPL.out]
          rfl
        · obtain ⟨ad, e2, _⟩ := (Rd.own ho6).byte (k := 0) (by rw [HPL.out]; omega)
          rw [e] at e2
          cases e2
      have HBR4 := Lib.hid hb4
      clear ho6 hb4
      go_wp2_with fail
      refine (E.build_any #[.int .u8 0, .int .u8 0, .int .u8 0, .int .u8 0, .int .u8 0, .int .u8 0, .int .u8 0, .int .u8 0, .int .u8 0, .int .u8 0, .int .u8 0, .int .u8 0, .int .u16 2048, .slice A6 pl c6] (frameOf pb) w4 0 w4.heap.size HFV.out (Nat.le_refl _)).mono ?_
      rw [HFB1.out]
      rintro e w5 ⟨A7, c7, rfl, ho7, hb5⟩
      simp only at ho7 ⊢
      unfold OwnB at ho7
      rw [HFL.out] at ho7 ⊢
      obtain ⟨ad7, rfl⟩ : ∃ ad7, A7 = some ad7 := by
        obtain ⟨ad, e, _⟩ := (Rd.own ho7).byte (k := 0) (by rw [HFL.out]; omega)
        exact ⟨ad, e⟩
      have hcap7 := own_cap ho7
      have HCAP7 := Lib.hid hcap7
      have hc7 := hcap7.1
      have hc7m := hcap7.2
      unfold maxLen at hc7m
      have HRO7 := Lib.hid ((Rd.own ho7).wide (lo' := 0) (Nat.zero_le _) (Nat.le_refl _))
      have HBR5 := Lib.hid (HBR4.out.trans (hb5.mono HBR4.out.size))
      clear ho7 hb5 hcap7 HFV HBR4
      have hpa := E.parse_any (some ad7) fb c7 0 w5.heap.size w5 HRO7.out (Nat.le_refl _) (by rw [HFL.out]; exact HCAP7.out.1) HCAP7.out.2
      rw [HFL.out, HFB2.out] at hpa
      have HPA := Lib.hid hpa
      clear hpa
      go_wp2_with fail
      refine HPA.out.mono ?_
      rintro e w6 ⟨cs8, rfl, hf8, hb6⟩
      simp only at hf8 ⊢
      have HS8 : Hid (cs8.size = 14) := hf8.size
      obtain ⟨A8, c8, he8, _, hr8, hl8, hm8, _⟩ := hf8
      have e8 : (frameOf pb).b = pb := rfl
      rw [e8, HPL.out] at he8 hl8
      rw [e8] at hr8
      have hk13 : cs8[13]? = some (.slice A8 pl c8) := by rw [he8]; rfl
      have hal8 : cs8.all (·.oneCell') = true := by rw [he8]; kernel_rfl
      have HAL8 := Lib.hid hal8
      have HIN8 : Hid ((Try.prog.info? 67).map (·.size) = some cs8.size) := by show _ = _; rw [HS8.out]; kernel_rfl
      have HZD8 : Hid ((#[.int .u8 0, .int .u8 0, .int .u8 0, .int .u8 0, .int .u8 0, .int .u8 0, .int .u8 0, .int .u8 0, .int .u8 0, .int .u8 0, .int .u8 0, .int .u8 0, .int .u16 0, .slice none 0 0] : Array Value).size = cs8.size) := by show _ = _; rw [HS8.out]; rfl
      have HBR6 := Lib.hid (HBR5.out.trans (hb6.mono HBR5.out.size))
      have HRO76 := Lib.hid (HRO7.out.below hb6 (Nat.le_refl _))
      have hb67 := (Below.refl w6.heap.size w6).alloc (Nat.le_refl _) (.cells cs8 67)
      have HK13 := Lib.hid hk13
      have HR8 := Lib.hid hr8
      have HY7 := Lib.hid (heap_alloc_new w6 (.cells cs8 67))
      have HBR7 := Lib.hid (HBR6.out.trans (hb67.mono HBR6.out.size))
      have HRO77 := Lib.hid (HRO76.out.below hb67 (hb6.size))
      have HR87 := Lib.hid ((HR8.out.below hb67 (Nat.le_refl _)).wide (lo' := 0) (hi' := (w6.alloc (.cells cs8 67)).heap.size) (Nat.zero_le _) hb67.size)
      have HZ57 : Hid (w5.heap.size ≤ (w6.alloc (.cells cs8 67)).heap.size) := Nat.le_trans hb6.size hb67.size
      clear hk13 hal8 he8 hr8 e8 hb67 HPA hb6
      go_upto_region 18 with (refine wpList_store_newS rfl 67 _ _ rfl w6 #[.int .u8 0, .int .u8 0, .int .u8 0, .int .u8 0, .int .u8 0, .int .u8 0, .int .u8 0, .int .u8 0, .int .u8 0, .int .u8 0, .int .u8 0, .int .u8 0, .int .u16 0, .slice none 0 0] cs8 rfl rfl HIN8.out HZD8.out HAL8.out ?_)
      generalize w6.alloc (.cells cs8 67) = w7 at HY7 HBR7 HRO77 HR87 HZ57 ⊢
      try simp only [Act.put]
      have k13 : w7.cell? ⟨w6.heap.size, 13, none⟩ = some (.slice A8 pl c8) := by rw [cell_of_row _ _ _ _ _ _ HY7.out]; exact HK13.out
      have hpa := V.parse_any A8 pb c8 w7 HR87.out (by rw [HPL.out]; exact hl8) (by rw [HPL.out]; omega) hm8
      rw [HPL.out, HPP.out] at hpa
      have HPA := Lib.hid hpa
      clear hpa
      go_wp2_with fail
      refine HPA.out.mono ?_
      rintro e w8 ⟨cs9, rfl, hp9, hb8⟩
      simp only at hp9 ⊢
      have HS9 : Hid (cs9.size = 14) := hp9.size
      have HP9 := Lib.hid hp9
      have HAL9 : Hid (cs9.all (·.oneCell') = true) := F.PkV.one (p := p) (pkv_toF (by rw [HPV.out]; exact hp9))
      have HIN9 : Hid ((Try.prog.info? 60).map (·.size) = some cs9.size) := by show _ = _; rw [HS9.out]; kernel_rfl
      have HZD9 : Hid ((#[.int .u16 0, .bool false, .int .i64 0, .int .u8 0, .int .u8 0, .int .u8 0, .int .u8 0, .int .u8 0, .int .u8 0, .int .u8 0, .int .u8 0, .int .u8 0, .int .u8 0, .slice none 0 0] : Array Value).size = cs9.size) := by show _ = _; rw [HS9.out]; rfl
      have HBR8 := Lib.hid (HBR7.out.trans (hb8.mono HBR7.out.size))
      have hb89 := (Below.refl w8.heap.size w8).alloc (Nat.le_refl _) (.cells cs9 60)
      have HY9 := Lib.hid (heap_alloc_new w8 (.cells cs9 60))
      have HRO79 := Lib.hid ((HRO77.out.below hb8 HZ57.out).below hb89 (Nat.le_trans HZ57.out hb8.size))
      have HBR9 := Lib.hid (HBR8.out.trans (hb89.mono HBR8.out.size))
      have HP99 := Lib.hid (HP9.out.below hb89 (Nat.le_refl _))
      have HZ59 : Hid (w5.heap.size ≤ (w8.alloc (.cells cs9 60)).heap.size) := Nat.le_trans HZ57.out (Nat.le_trans hb8.size hb89.size)
      have HZ89 : Hid (w8.heap.size < (w8.alloc (.cells cs9 60)).heap.size) := by show _ < _; simp
      clear hp9 hb8 hb89 k13 HPA
      go_upto_region 19 with (refine wpList_store_newS rfl 60 _ _ rfl w8 #[.int .u16 0, .bool false, .int .i64 0, .int .u8 0, .int .u8 0, .int .u8 0, .int .u8 0, .int .u8 0, .int .u8 0, .int .u8 0, .int .u8 0, .int .u8 0, .int .u8 0, .slice none 0 0] cs9 rfl rfl HIN9.out HZD9.out HAL9.out ?_)
      generalize w8.alloc (.cells cs9 60) = w9 at HY9 HRO79 HBR9 HP99 HZ59 HZ89 ⊢
      try simp only [Act.put]
      have HB9 := Lib.hid (HBR.out.trans (HBR9.out.mono HBR.out.size))
      have HT9 := Lib.hid ((HB9.out.block _ (row_lt HT3.out)).trans HT3.out)
      have HC9 := Lib.hid ((HBR9.out.block _ (row_lt HC.out)).trans HC.out)
      have HHo9 := Lib.hid (HH9.out.below HBR9.out)
      clear HRO7 HRO76 HRO77 HBR5 HBR6 HBR7 HBR8 HY7 HR8 HR87 HZ57 HK13 HP9
      have kt0 : w9.cell? ⟨w.heap.size + 2, 0, none⟩ = some (.int .i64 a) := cell_of_row _ _ 0 _ _ _ HT9.out
      obtain ⟨hu1, hu2⟩ := u64_range a
      obtain ⟨k, hk1, hk2⟩ := rem_small (IntKind.u64.wrap a) pl (by omega)
      have hkl : k < pl := by omega
      have t0 : IntKind.u64.wrap (pl : Int) = (pl : Int) := IntWalk.u64_in _ ⟨by omega, by omega⟩
      have t1 : (IntKind.u64.wrap a).tmod (pl : Int) = (k : Int) := by rw [Int.tmod_eq_emod_of_nonneg hu1]; exact hk1
      have t2 : (IntKind.u64.wrap a) % (pl : Int) = (k : Int) := hk1
      have t3 : IntKind.u64.wrap (k : Int) = (k : Int) := IntWalk.u64_in _ ⟨by omega, by omega⟩
      have t4 : IntKind.i64.wrap (k : Int) = (k : Int) := IntWalk.i64_in _ ⟨by omega, by omega⟩
      have hpl0 : ¬ pl = 0 := by omega
      obtain ⟨kk, hkk⟩ : ∃ kk : Nat, 14 + k = kk := ⟨_, rfl⟩
      have t5 : 14 + (k : Int) = (kk : Int) := by omega
      have hkf : kk < fl := by have := HFLP.out; omega
      clear hk1 hk2
      go_upto_region 22 with fail
      obtain ⟨i0, hi0, hz0, hz1, hz2⟩ := info_parts info_u8
      have HCB : Hid ((cells fb).length = fl) := by show _ = _; rw [cells_length]; exact HFL.out
      have H1C := Lib.hid (cells_one fb)
      go_wp2_with (at_builtin; refine wpList_append_rd rfl _ _ 24 rfl w9.heap.size 5 i0 (.int .u8 0) 1 Try.underlying24 hi0 hz0 hz1 hz2 rfl _ _ _ rfl (own_lit _ [] _ _ w9.heap.size 0 (by simp) (by simp) (by unfold maxLen; omega) rfl) (some ad7) fl c7 (cells fb) rfl (fun h => by cases h) HCB.out (HRO79.out.alloc HZ59.out _) H1C.out (by unfold maxLen; omega) (by omega) (by simp) ?_)
      intro v10 w10 hown10 hgrow10
      obtain ⟨A10, c10, rfl⟩ := own_form hown10
      replace hown10 : w10.ownsRow w9.heap.size 5 1 (.slice A10 fl c10) fl (cells fb) := by first | exact hown10 | simpa using hown10
      have hb910 : Below w9.heap.size w9 w10 := ((Below.refl w9.heap.size w9).alloc (Nat.le_refl _) _).grown hgrow10 (by simp) fun g hg => by simp [Value.ownBlock] at hg; omega
      have HB910 := Lib.hid hb910
      have hkb : kk < fb.length := by rw [HFL.out]; exact hkf
      obtain ⟨bb, hbb⟩ : ∃ bb, fb[kk] = bb := ⟨_, rfl⟩
      have HXK : Hid (fb.getD kk 0 = bb) := by show _ = _; rw [List.getD_eq_getElem?_getD, List.getElem?_eq_getElem hkb, hbb]; rfl
      have hcg := cells_get fb kk hkb
      rw [hbb] at hcg
      obtain ⟨g10, rfl, hg1, hg2, hcell⟩ := own_at hown10 hcg
      have HOWN := Lib.hid hown10
      obtain ⟨y, hy⟩ : ∃ y : UInt8, (y.toNat : Int) = IntKind.u8.wrap b := by
        refine ⟨UInt8.ofNat (b % 256).toNat, ?_⟩
        rw [u8_of, IntKind.wrap_u8]
        omega
      have ty1 : IntKind.u8.wrap b = (y.toNat : Int) := hy.symm
      have ty2 : b % 256 = (y.toNat : Int) := by rw [hy, IntKind.wrap_u8]
      have hyl := y.toNat_lt
      have HCP := Lib.hid (own_cap hown10)
      have hxor := xor_byte bb y
      rw [UInt8.toNat_xor] at hxor
      have hkf2 : (kk : Int) < (fl : Int) := by omega
      have HT10 := Lib.hid ((hb910.block _ (row_lt HT9.out)).trans HT9.out)
      have kt1 : w10.cell? ⟨w.heap.size + 2, 1, none⟩ = some (.int .i64 b) := cell_of_row _ _ 1 _ _ _ HT10.out
      clear hown10 hgrow10 hb910 hkb hbb hcg hi0 hz0 hz1 hz2 kt0 t0 t1 t2 t3 t4 hy
      go_upto_region 23 with fail
      go_still_tail 9, (by kernel_rfl)
      change wpList _ _ _ _ _ w10.drew
      have HOWND : Hid (w10.drew.ownsRow w9.heap.size 5 1 (.slice (some ⟨g10, 0, none⟩) fl c10) fl (cells fb)) := HOWN.out
      have HBD : Hid (Below w9.heap.size w9 w10.drew) := HB910.out.drew
      have hcelld : w10.drew.cell? ⟨g10, kk, none⟩ = some (.int .u8 (bb.toNat : Int)) := hcell
      clear HOWN HB910 HT10 kt1 hcell
      generalize w10.drew = wd at HOWND HBD hcelld ⊢
      have hfree : wd.frozen? ⟨g10, kk, none⟩ = false := HOWND.out.frozenAt kk
      have hst := HOWND.out.stored kk (.int .u8 ((bb.toNat ^^^ y.toNat : Nat) : Int))
      have ecs : (cells fb).set kk (.int .u8 ((bb.toNat ^^^ y.toNat : Nat) : Int)) = cells (fb.set kk (bb ^^^ y)) := by
        unfold cells
        rw [List.map_set, UInt8.toNat_xor]
      rw [ecs] at hst
      obtain ⟨w11, hw11⟩ : ∃ w11, wd.setCell ⟨g10, kk, none⟩ (.int .u8 ((bb.toNat ^^^ y.toNat : Nat) : Int)) = w11 := ⟨_, rfl⟩
      have HST11 : Hid (w11.ownsRow w9.heap.size 5 1 (.slice (some ⟨g10, 0, none⟩) fl c10) fl (cells (fb.set kk (bb ^^^ y))) ∧ wd.grownBy w11 (some g10)) := by rw [← hw11]; exact hst
      have HB911 : Hid (Below w9.heap.size w9 w11) := HBD.out.grown HST11.out.2 HBD.out.size (fun g' e => by injection e with e; omega)
      clear hst ecs
      go_upto_region 24 with fail
      (try rw [hw11])
      clear hw11 hg1 hg2 hxor hfree hcelld HOWND HBD HCB H1C
      have HT11 := Lib.hid ((HB911.out.block _ (row_lt HT9.out)).trans HT9.out)
      have kt1' : w11.cell? ⟨w.heap.size + 2, 1, none⟩ = some (.int .i64 b) := cell_of_row _ _ 1 _ _ _ HT11.out
      go_cut [146] (fun t146 wx => t146 = .bool (decide (k < 20 ∧ y ≠ 0)) ∧ w11 = wx)
      case first =>
        by_cases hk20 : k < 20
        · have q34 : (kk : Int) < 34 := by omega
          by_cases hy0 : y = 0
          · have qy : ((y.toNat : Int) != 0) = false := bneF (by rw [hy0]; rfl)
            have hd : decide (k < 20 ∧ y ≠ 0) = false := decide_eq_false (fun h => h.2 hy0)
            have HD := Lib.hid hd
            clear hd hy0
            go_wp2_with fail
            go_meet
            case rel => exact ⟨by rw [HD.out], rfl⟩
          · have qy : ((y.toNat : Int) != 0) = true := bneT (fun e => hy0 (UInt8.toNat_inj.1 (Int.ofNat.inj e)))
            have hd : decide (k < 20 ∧ y ≠ 0) = true := decide_eq_true ⟨hk20, hy0⟩
            have HD := Lib.hid hd
            clear hd hy0
            go_wp2_with fail
            go_meet
            case rel => exact ⟨by rw [HD.out], rfl⟩
        · have q34 : ¬ (kk : Int) < 34 := by omega
          have hd : decide (k < 20 ∧ y ≠ 0) = false := decide_eq_false (fun h => hk20 h.1)
          have HD := Lib.hid hd
          clear hd
          go_wp2_with fail
          go_meet
          case rel => exact ⟨by rw [HD.out], rfl⟩
      case rest =>
      obtain ⟨rfl, rfl⟩ := hcut
      obtain ⟨tb, htb⟩ : ∃ tb, decide (k < 20 ∧ y ≠ 0) = tb := ⟨_, rfl⟩
      rw [htb]
      have HTB := Lib.hid htb
      clear htb
      go_upto_if 146 with (fail)
      go_cut [] (fun wx => Hid (Below w11.heap.size w11 wx))
      case first =>
        rcases tb with _ | _
        · go_wp2_with fail
          go_meet
          case rel => exact Lib.hid (Below.refl _ _)
        · skip
          have hkb := of_decide_eq_true HTB.out
          obtain ⟨hk20, hy0⟩ := hkb
          obtain ⟨bz, hbz⟩ : ∃ bz, fb.set kk (bb ^^^ y) = bz := ⟨_, rfl⟩
          obtain ⟨hx1, hx2⟩ := frame_bent pb (by rw [HPL.out]; omega) k (bb ^^^ y)
          have hgt := frame_get pb k
          rw [HFB.out, hkk, hbz] at hx1 hx2
          rw [HFB.out, hkk, HXK.out] at hgt
          have htu := turned_fine HPF2.out.1 HPF2.out.2.1 (by have := HPF2.out.2.2; omega) k hk20 (bb ^^^ y) (by rw [HPB.out, ← hgt]; exact xor_ne bb y hy0)
          rw [HPB.out] at htu
          have hbl : bz.length = fl := by rw [← hbz, List.length_set]; exact HFL.out
          obtain ⟨pz, hpz⟩ : ∃ pz, pb.set k (bb ^^^ y) = pz := ⟨_, rfl⟩
          have hpzl : pz.length = pl := by rw [← hpz, List.length_set]; exact HPL.out
          rw [hpz] at hx2 htu
          obtain ⟨fr, hfr⟩ : ∃ fr, E.frOf bz = fr := ⟨_, rfl⟩
          rw [hfr] at hx1 hx2
          have hst1 := HST11.out.1
          rw [hbz] at hst1
          have hpa := E.parse_any (some ⟨g10, 0, none⟩) bz c10 0 w11.heap.size w11 ((Rd.own hst1).wide (Nat.zero_le _) (Nat.le_refl _)) (Nat.le_refl _) (by rw [hbl]; exact HCP.out.1) HCP.out.2
          rw [hbl, hx1] at hpa
          have HPA := Lib.hid hpa
          obtain ⟨qz, er, hqe⟩ : ∃ qz er, parseP pz = (qz, er) := ⟨_, _, rfl⟩
          rw [hqe] at htu
          have HTU : Hid (er ≠ 0 ∨ qz ≠ pv) := htu
          have HQE := Lib.hid hqe
          have HX2' := Lib.hid hx2
          have HPZL := Lib.hid hpzl
          have HY11 := Lib.hid ((HB911.out.block _ (row_lt HY9.out)).trans HY9.out)
          have HP11 := Lib.hid (HP99.out.below HB911.out (Nat.le_of_lt HZ89.out))
          have HZ811 : Hid (w8.heap.size < w11.heap.size) := row_lt HY11.out
          clear hbz hx1 hx2 hgt htu hbl hpz hpzl hfr hst1 hpa hqe hk20 hy0
          go_wp2_with fail
          refine HPA.out.mono ?_
          rintro e w12 ⟨cs12, rfl, hf12, hb12⟩
          simp only at hf12 ⊢
          have HS12 : Hid (cs12.size = 14) := hf12.size
          obtain ⟨A12, c12, he12, hok12, hr12, hl12, hm12, _⟩ := hf12
          rw [HX2'.out, HPZL.out] at he12 hl12
          rw [HX2'.out] at hr12
          have hk13 : cs12[13]? = some (.slice A12 pl c12) := by
            rw [he12, List.getElem?_toArray]
            unfold E.frC
            rw [List.getElem?_append_right (by simp [cells_length, hok12.1, hok12.2.1])]
            simp [cells_length, hok12.1, hok12.2.1]
          have hal12 : cs12.all (·.oneCell') = true := by rw [he12]; exact frc_one _ _ rfl
          have HAL12 := Lib.hid hal12
          have HIN12 : Hid ((Try.prog.info? 67).map (·.size) = some cs12.size) := by show _ = _; rw [HS12.out]; kernel_rfl
          have HZD12 : Hid ((#[.int .u8 0, .int .u8 0, .int .u8 0, .int .u8 0, .int .u8 0, .int .u8 0, .int .u8 0, .int .u8 0, .int .u8 0, .int .u8 0, .int .u8 0, .int .u8 0, .int .u16 0, .slice none 0 0] : Array Value).size = cs12.size) := by show _ = _; rw [HS12.out]; rfl
          have hb1213 := (Below.refl w12.heap.size w12).alloc (Nat.le_refl _) (.cells cs12 67)
          have HK13 := Lib.hid hk13
          have HR12 := Lib.hid hr12
          have HY13 := Lib.hid (heap_alloc_new w12 (.cells cs12 67))
          have HB13 := Lib.hid (hb12.trans (hb1213.mono hb12.size))
          have HR13 := Lib.hid ((HR12.out.below hb1213 (Nat.le_refl _)).wide (lo' := 0) (hi' := (w12.alloc (.cells cs12 67)).heap.size) (Nat.zero_le _) hb1213.size)
          clear hk13 hal12 he12 hr12 hok12 hb1213 HPA hb12
          go_upto_region 26 with (refine wpList_store_newS rfl 67 _ _ rfl w12 #[.int .u8 0, .int .u8 0, .int .u8 0, .int .u8 0, .int .u8 0, .int .u8 0, .int .u8 0, .int .u8 0, .int .u8 0, .int .u8 0, .int .u8 0, .int .u8 0, .int .u16 0, .slice none 0 0] cs12 rfl rfl HIN12.out HZD12.out HAL12.out ?_)
          generalize w12.alloc (.cells cs12 67) = w13 at HY13 HB13 HR13 ⊢
          try simp only [Act.put]
          have k13 : w13.cell? ⟨w12.heap.size, 13, none⟩ = some (.slice A12 pl c12) := by rw [cell_of_row _ _ _ _ _ _ HY13.out]; exact HK13.out
          have hpa := V.parse_any A12 pz c12 w13 HR13.out (by rw [HPZL.out]; exact hl12) (by rw [HPZL.out]; omega) hm12
          rw [HPZL.out, HQE.out] at hpa
          have HPA := Lib.hid hpa
          clear hpa
          go_wp2_with fail
          refine HPA.out.mono ?_
          rintro e w14 ⟨cs14, rfl, hp14, hb14⟩
          simp only at hp14 ⊢
          have HS14 : Hid (cs14.size = 14) := hp14.size
          have HAL14 : Hid (cs14.all (·.oneCell') = true) := F.PkV.one (p := ⟨qz.id, qz.more, qz.off, qz.ttl, qz.proto, qz.src, qz.dst, qz.data⟩) (pkv_toF hp14)
          have HIN14 : Hid ((Try.prog.info? 60).map (·.size) = some cs14.size) := by show _ = _; rw [HS14.out]; kernel_rfl
          have HZD14 : Hid ((#[.int .u16 0, .bool false, .int .i64 0, .int .u8 0, .int .u8 0, .int .u8 0, .int .u8 0, .int .u8 0, .int .u8 0, .int .u8 0, .int .u8 0, .int .u8 0, .int .u8 0, .slice none 0 0] : Array Value).size = cs14.size) := by show _ = _; rw [HS14.out]; rfl
          have hb1415 := (Below.refl w14.heap.size w14).alloc (Nat.le_refl _) (.cells cs14 60)
          have HB14 := Lib.hid (HB13.out.trans (hb14.mono HB13.out.size))
          have HB15 := Lib.hid (HB14.out.trans (hb1415.mono HB14.out.size))
          have HY15 := Lib.hid (heap_alloc_new w14 (.cells cs14 60))
          have HP15 := Lib.hid (hp14.below hb1415 (Nat.le_refl _))
          have HZ15 : Hid (w14.heap.size ≤ (w14.alloc (.cells cs14 60)).heap.size) := hb1415.size
          clear hp14 hb14 hb1415 k13 HPA
          go_upto_region 27 with (refine wpList_store_newS rfl 60 _ _ rfl w14 #[.int .u16 0, .bool false, .int .i64 0, .int .u8 0, .int .u8 0, .int .u8 0, .int .u8 0, .int .u8 0, .int .u8 0, .int .u8 0, .int .u8 0, .int .u8 0, .int .u8 0, .slice none 0 0] cs14 rfl rfl HIN14.out HZD14.out HAL14.out ?_)
          generalize w14.alloc (.cells cs14 60) = w15 at HY15 HB15 HP15 HZ15 ⊢
          try simp only [Act.put]
          have HYY := Lib.hid ((HB15.out.block _ (row_lt HY11.out)).trans HY11.out)
          have HPY := Lib.hid (HP11.out.below HB15.out (Nat.le_of_lt HZ811.out))
          obtain ⟨A', n', c', s0', s1', s2', s3', d0', d1', d2', d3', hn', hsr', hds', hr', k0', k1', k2', k3', k4', k5', k6', k7', k8', k9', k10', k11', k12', k13'⟩ := pkv_cells HY15.out HP15.out
          obtain ⟨Ay, ny, cy, y0, y1, y2, y3, z0, z1, z2, z3, hny, hsry, hdsy, hry, j0, j1, j2, j3, j4, j5, j6, j7, j8, j9, j10, j11, j12, j13⟩ := pkv_cells HYY.out HPY.out
          have ht1 := run_text (P := Try.prog) _ 24 9 5 c' Try.underlying24 Try.underlying5 Try.underlying9 hr'
          have ht2 := run_text (P := Try.prog) _ 24 9 5 cy Try.underlying24 Try.underlying5 Try.underlying9 hry
          rw [hn'] at ht1
          rw [hny] at ht2
          have HTX : Hid (¬ (er = 0 ∧ qz.off = pv.off ∧ qz.data = pv.data ∧ [s0', s1', s2', s3'] = [y0, y1, y2, y3] ∧ [d0', d1', d2', d3'] = [z0, z1, z2, z3] ∧ qz.proto = pv.proto ∧ qz.id = pv.id ∧ qz.more = pv.more ∧ qz.ttl = pv.ttl)) := by
            rintro ⟨e0, e3, e8, e6, e7, e5, e1, e2, e4⟩
            rcases HTU.out with hh | hh
            · exact hh e0
            · exact hh (pk_ext e1 e2 e3 e4 e5 (by rw [hsr', hsry]; exact e6) (by rw [hds', hdsy]; exact e7) e8)
          obtain ⟨qid, hqid⟩ : ∃ v, qz.id = v := ⟨_, rfl⟩
          obtain ⟨qmo, hqmo⟩ : ∃ v, qz.more = v := ⟨_, rfl⟩
          obtain ⟨qof, hqof⟩ : ∃ v, qz.off = v := ⟨_, rfl⟩
          obtain ⟨qtt, hqtt⟩ : ∃ v, qz.ttl = v := ⟨_, rfl⟩
          obtain ⟨qpr, hqpr⟩ : ∃ v, qz.proto = v := ⟨_, rfl⟩
          obtain ⟨qda, hqda⟩ : ∃ v, qz.data = v := ⟨_, rfl⟩
          obtain ⟨vid, hvid⟩ : ∃ v, pv.id = v := ⟨_, rfl⟩
          obtain ⟨vmo, hvmo⟩ : ∃ v, pv.more = v := ⟨_, rfl⟩
          obtain ⟨vof, hvof⟩ : ∃ v, pv.off = v := ⟨_, rfl⟩
          obtain ⟨vtt, hvtt⟩ : ∃ v, pv.ttl = v := ⟨_, rfl⟩
          obtain ⟨vpr, hvpr⟩ : ∃ v, pv.proto = v := ⟨_, rfl⟩
          obtain ⟨vda, hvda⟩ : ∃ v, pv.data = v := ⟨_, rfl⟩
          rw [hqid, hqmo, hqof, hqtt, hqpr, hqda, hvid, hvmo, hvof, hvtt, hvpr, hvda] at HTX
          rw [hqid] at k0'
          rw [hqmo] at k1'
          rw [hqof] at k2'
          rw [hqtt] at k3'
          rw [hqpr] at k4'
          rw [hqda] at ht1
          rw [hvid] at j0
          rw [hvmo] at j1
          rw [hvof] at j2
          rw [hvtt] at j3
          rw [hvpr] at j4
          rw [hvda] at ht2
          clear hn' hsr' hds' hr' hny hsry hdsy hry hqid hqmo hqof hqtt hqpr hqda hvid hvmo hvof hvtt hvpr hvda HTU
          by_cases e0 : er = 0
          · have qe := beqT e0
            by_cases e1 : qof = vof
            · have q3 := beqT e1
              by_cases e2 : qda = vda
              · rw [e2] at ht1
                by_cases e3 : [s0', s1', s2', s3'] = [y0, y1, y2, y3]
                · have q6 := F.eqv_ip 9998 s0' s1' s2' s3' y0 y1 y2 y3 true (decide_eq_true e3)
                  by_cases e4 : [d0', d1', d2', d3'] = [z0, z1, z2, z3]
                  · have q7 := F.eqv_ip 9998 d0' d1' d2' d3' z0 z1 z2 z3 true (decide_eq_true e4)
                    by_cases e5 : qpr = vpr
                    · have q5 := beqT (show (qpr.toNat : Int) = (vpr.toNat : Int) from by rw [e5])
                      by_cases e6 : qid = vid
                      · have q1 := beqT (show (qid : Int) = (vid : Int) by omega)
                        by_cases e7 : qmo = vmo
                        · have q2 : (qmo == vmo) = true := by simp [e7]
                          by_cases e8 : qtt = vtt
                          · exact absurd ⟨e0, e1, e2, e3, e4, e5, e6, e7, e8⟩ HTX.out
                          · as_aux_lemma =>
                              have q4 := beqF (show ¬ (qtt.toNat : Int) = (vtt.toNat : Int) from (fun hh => e8 (UInt8.toNat_inj.1 (Int.ofNat.inj hh))))
                              clear e0 e1 e2 e3 e4 e5 e6 e7 e8
                              go_wp2_with fail
                              go_meet
                              case rel => exact HB15
                        · as_aux_lemma =>
                            have q2 : (qmo == vmo) = false := by simp [e7]
                            clear e0 e1 e2 e3 e4 e5 e6 e7
                            go_wp2_with fail
                            go_meet
                            case rel => exact HB15
                      · as_aux_lemma =>
                          have q1 := beqF (show ¬ (qid : Int) = (vid : Int) by omega)
                          clear e0 e1 e2 e3 e4 e5 e6
                          go_wp2_with fail
                          go_meet
                          case rel => exact HB15
                    · as_aux_lemma =>
                        have q5 := beqF (show ¬ (qpr.toNat : Int) = (vpr.toNat : Int) from (fun hh => e5 (UInt8.toNat_inj.1 (Int.ofNat.inj hh))))
                        clear e0 e1 e2 e3 e4 e5
                        go_wp2_with fail
                        go_meet
                        case rel => exact HB15
                  · as_aux_lemma =>
                      have q7 := F.eqv_ip 9998 d0' d1' d2' d3' z0 z1 z2 z3 false (decide_eq_false e4)
                      clear e0 e1 e2 e3 e4
                      go_wp2_with fail
                      go_meet
                      case rel => exact HB15
                · as_aux_lemma =>
                    have q6 := F.eqv_ip 9998 s0' s1' s2' s3' y0 y1 y2 y3 false (decide_eq_false e3)
                    clear e0 e1 e2 e3
                    go_wp2_with fail
                    go_meet
                    case rel => exact HB15
              · as_aux_lemma =>
                  obtain ⟨q8, q9⟩ := F.texts_ne e2
                  clear e0 e1 e2
                  go_wp2_with fail
                  go_meet
                  case rel => exact HB15
            · as_aux_lemma =>
                have q3 := beqF e1
                clear e0 e1
                go_wp2_with fail
                go_meet
                case rel => exact HB15
          · as_aux_lemma =>
              have qe := beqF e0
              clear e0
              go_wp2_with fail
              go_meet
              case rel => exact HB15
      case rest =>
      have HBC := hcut
      have HB9c := Lib.hid (HB911.out.trans (HBC.out.mono HB911.out.size))
      have HYc := Lib.hid ((HB9c.out.block _ (row_lt HY9.out)).trans HY9.out)
      have HPc : Hid (F.PkV wc w7.heap.size w8.heap.size cs9 p) := by
        show F.PkV _ _ _ _ _
        have hh := HP99.out.below HB9c.out (Nat.le_of_lt HZ89.out)
        rw [← HPV.out] at hh
        exact pkv_toF hh
      have HHoc := Lib.hid (HHo9.out.below HB9c.out)
      have HCc := Lib.hid ((HB9c.out.block _ (row_lt HC9.out)).trans HC9.out)
      have HB3c := Lib.hid (HB9.out.trans (HB9c.out.mono HB9.out.size))
      have HZ8c : Hid (w8.heap.size ≤ wc.heap.size) := Nat.le_trans (Nat.le_of_lt HZ89.out) HB9c.out.size
      clear hcut HBC HB911 HST11 HTB HT9 HT11 kt1' HCP HXK HRO79 ty1 ty2 t5 hkf2
      by_cases hla : i + 1 = N
      · as_aux_lemma =>
          rw [if_pos hla] at HNEW
          have q13 : ((i : Int) == (N : Int) - 1) = true := beqT (by omega)
          go_wp2_with (first | refine wpList_load_row rfl 60 _ rfl w8.heap.size rfl 60 cs9 (0, 0) _ HYc.out Try.underlying60 rfl HIN9.out ?_)
          refine (F.add_any v9 (st i) cs9 p w7.heap.size w8.heap.size 0 wc HHoc.out (HST.out.small i).1 (HST.out.small i).2 HPc.out HZ8c.out HPO2.out.1 HPO2.out.2.1 HPO2.out.2.2 (by decide)).mono ?_
          rw [HNEW.out]
          rintro e' w20 ⟨v20, es, rfl, hh, hp, hb⟩
          simp only at hh hp ⊢
          have HES : Hid (es.size = 14) := hp.size
          have HEO : Hid (es.all (·.oneCell') = true) := hp.one
          have HIN20 : Hid ((Try.prog.info? 60).map (·.size) = some es.size) := by show _ = _; rw [HES.out]; kernel_rfl
          have HC20 := Lib.hid ((hb.block _ (row_lt HCc.out)).trans HCc.out)
          have HB20a := Lib.hid (HB3c.out.trans (hb.mono HB3c.out.size))
          have HB20 := Lib.hid (below_setRowO HB20a.out (Nat.le_refl _) es)
          have HC20s := Lib.hid (setRow_heap w20 w3.heap.size C es 60 (0, 0) HC20.out)
          have HH20 := Lib.hid (hks_set (D := es) hh HC20.out)
          have HP20 : Hid (F.PkV (w20.setRow w3.heap.size es) 0 (w20.setRow w3.heap.size es).heap.size es q) := (pkv_set (D := es) hp (by rw [HQD.out]; omega) HC20.out HCS.out).wide (Nat.le_refl _) (by simp [World.setRow])
          clear hh hp hb
          go_wp2_with (first | refine wpList_store_row rfl 60 _ _ rfl w3.heap.size es rfl rfl 60 C HC20.out HIN20.out (by rw [HCS.out, HES.out]) HEO.out ?_)
          go_roundw
          case rel => exact ⟨i + 1, es, by omega, by go_num, Lib.hid (by rw [if_pos hla]; exact HH20.out), HB20, HC20s, HES, Lib.hid (fun _ => HP20.out)⟩
          case measure => simp [intOf]; omega
      · as_aux_lemma =>
          rw [if_neg hla] at HNEW
          have q13 : ((i : Int) == (N : Int) - 1) = false := beqF (by omega)
          go_wp2_with (first | refine wpList_load_row rfl 60 _ rfl w8.heap.size rfl 60 cs9 (0, 0) _ HYc.out Try.underlying60 rfl HIN9.out ?_)
          refine (F.add_any v9 (st i) cs9 p w7.heap.size w8.heap.size 0 wc HHoc.out (HST.out.small i).1 (HST.out.small i).2 HPc.out HZ8c.out HPO2.out.1 HPO2.out.2.1 HPO2.out.2.2 (by decide)).mono ?_
          rw [HNEW.out]
          rintro e' w20 ⟨v20, es, rfl, hh, hp, hb⟩
          simp only at hh hp ⊢
          have HES : Hid (es.size = 14) := hp.size
          have HEO : Hid (es.all (·.oneCell') = true) := hp.one
          have HIN20 : Hid ((Try.prog.info? 60).map (·.size) = some es.size) := by show _ = _; rw [HES.out]; kernel_rfl
          have HC20 := Lib.hid ((hb.block _ (row_lt HCc.out)).trans HCc.out)
          have HB20a := Lib.hid (HB3c.out.trans (hb.mono HB3c.out.size))
          have HB20 := Lib.hid (below_setRowO HB20a.out (Nat.le_refl _) es)
          have HC20s := Lib.hid (setRow_heap w20 w3.heap.size C es 60 (0, 0) HC20.out)
          have HH20 := Lib.hid (hks_set (D := es) hh HC20.out)
          clear hh hp hb
          go_wp2_with (first | refine wpList_store_row rfl 60 _ _ rfl w3.heap.size es rfl rfl 60 C HC20.out HIN20.out (by rw [HCS.out, HES.out]) HEO.out ?_)
          go_roundw
          case rel => exact ⟨i + 1, es, by omega, by go_num, Lib.hid (by rw [if_neg hla]; exact HH20.out), HB20, HC20s, HES, Lib.hid (fun e => absurd e hla)⟩
          case measure => simp [intOf]; omega
    · obtain rfl : i = N := by omega
      as_aux_lemma =>
        rw [if_pos rfl] at HH9
        obtain ⟨A8, c8, xs8, hv8, _⟩ := HH9.out
        have hv9 : v9 = .slice A8 0 c8 := hv8
        subst hv9
        have HBF := Lib.hid (HB3.out.trans (HBR.out.mono HB3.out.size))
        have HXF := Lib.hid ((HBR.out.block _ (row_lt HX3.out)).trans HX3.out)
        obtain ⟨A9, c9, eC, _, _, hr9, hl9, hm9, _⟩ := HCV.out rfl
        rw [HQF.out.2.2.2.1] at eC hr9 hl9
        rw [HL.out] at eC hl9
        have eC2 : C = #[.int .u16 7, .bool false, .int .i64 0, .int .u8 64, .int .u8 6, .int .u8 (s0.toNat : Int), .int .u8 (s1.toNat : Int), .int .u8 (s2.toNat : Int), .int .u8 (s3.toNat : Int), .int .u8 (d0.toNat : Int), .int .u8 (d1.toNat : Int), .int .u8 (d2.toNat : Int), .int .u8 (d3.toNat : Int), .slice A9 L c9] := by rw [eC, HQ.out]; rfl
        rw [eC2] at HC
        have HR9 := Lib.hid hr9
        have k5 : wr.cell? ⟨w3.heap.size, 5, none⟩ = some (.int .u8 (s0.toNat : Int)) := cell_of_row _ _ 5 _ _ _ HC.out
        have k6 : wr.cell? ⟨w3.heap.size, 6, none⟩ = some (.int .u8 (s1.toNat : Int)) := cell_of_row _ _ 6 _ _ _ HC.out
        have k7 : wr.cell? ⟨w3.heap.size, 7, none⟩ = some (.int .u8 (s2.toNat : Int)) := cell_of_row _ _ 7 _ _ _ HC.out
        have k8 : wr.cell? ⟨w3.heap.size, 8, none⟩ = some (.int .u8 (s3.toNat : Int)) := cell_of_row _ _ 8 _ _ _ HC.out
        have k9 : wr.cell? ⟨w3.heap.size, 9, none⟩ = some (.int .u8 (d0.toNat : Int)) := cell_of_row _ _ 9 _ _ _ HC.out
        have k10 : wr.cell? ⟨w3.heap.size, 10, none⟩ = some (.int .u8 (d1.toNat : Int)) := cell_of_row _ _ 10 _ _ _ HC.out
        have k11 : wr.cell? ⟨w3.heap.size, 11, none⟩ = some (.int .u8 (d2.toNat : Int)) := cell_of_row _ _ 11 _ _ _ HC.out
        have k12 : wr.cell? ⟨w3.heap.size, 12, none⟩ = some (.int .u8 (d3.toNat : Int)) := cell_of_row _ _ 12 _ _ _ HC.out
        have k13 : wr.cell? ⟨w3.heap.size, 13, none⟩ = some (.slice A9 L c9) := cell_of_row _ _ 13 _ _ _ HC.out
        have hop := sopen_any A9 bs c9 0 wr.heap.size s0 s1 s2 s3 d0 d1 d2 d3 wr HR9.out (Nat.le_refl _) (by rw [HL.out]; exact hl9) hm9
        rw [HL.out, HOP.out] at hop
        have HOP2 := Lib.hid hop
        clear hop hr9 eC eC2 hv8 hlt
        go_wp2_with fail
        refine HOP2.out.mono ?_
        rintro e w5 ⟨ds5, rfl, hds, hb5⟩
        simp only at hds ⊢
        have HDS := Lib.hid hds
        have HAL := Lib.hid hds.one.2
        have HIN : Hid ((Try.prog.info? 26).map (·.size) = some ds5.size) := by show _ = _; rw [hds.one.1]; kernel_rfl
        have HZD : Hid ((#[.int .u16 0, .int .u16 0, .int .u32 0, .int .u32 0, .int .u8 0, .int .u16 0, .int .u16 0, .slice none 0 0] : Array Value).size = ds5.size) := by show _ = _; rw [hds.one.1]; rfl
        have HB5 := Lib.hid (HBF.out.trans (hb5.mono HBF.out.size))
        have HX5 := Lib.hid ((hb5.block _ (row_lt HXF.out)).trans HXF.out)
        have HB6 := Lib.hid (HB5.out.alloc HB5.out.size (.cells ds5 26))
        have HX6 := Lib.hid (old_alloc HX5.out (.cells ds5 26))
        have HY6 := Lib.hid (heap_alloc_new w5 (.cells ds5 26))
        have HD6 := Lib.hid (HDS.out.below ((Below.refl w5.heap.size w5).alloc (Nat.le_refl _) (.cells ds5 26)) (Nat.le_refl _))
        have HZ6 : Hid (w5.heap.size ≤ (w5.alloc (.cells ds5 26)).heap.size) := by show _ ≤ _; simp
        clear hds hb5 k5 k6 k7 k8 k9 k10 k11 k12 k13
        go_upto_region 35 with (refine wpList_store_newS rfl 26 _ _ rfl w5 #[.int .u16 0, .int .u16 0, .int .u32 0, .int .u32 0, .int .u8 0, .int .u16 0, .int .u16 0, .slice none 0 0] ds5 rfl rfl HIN.out HZD.out HAL.out ?_)
        generalize w5.alloc (.cells ds5 26) = w6 at HB6 HX6 HY6 HD6 HZ6 ⊢
        try simp only [Act.put]
        have hsm := samesg_any ds5 _ x x wr.heap.size w5.heap.size 0 w.heap.size w6 HD6.out (HX.out.below HB6.out (Nat.le_refl _)) HZ6.out HB6.out.size
        rw [sgEq_self] at hsm
        have HSM := Lib.hid hsm
        clear hsm
        go_wp2_with (first | refine wpList_load_rowS (by kernel_rfl) 26 _ rfl w5.heap.size rfl 26 ds5 (0, 0) _ HY6.out Try.underlying26 rfl HIN.out ?_ | refine wpList_load_rowS (by kernel_rfl) 26 _ rfl w.heap.size rfl 26 #[.int .u16 (x.src : Int), .int .u16 (x.dst : Int), .int .u32 (x.seq : Int), .int .u32 (x.ack : Int), .int .u8 (x.flags.toNat : Int), .int .u16 (x.wnd : Int), .int .u16 (x.mss : Int), .slice A n c] (0, 0) _ HX6.out Try.underlying26 rfl (by kernel_rfl) ?_)
        refine HSM.out.mono ?_
        rintro e w7 ⟨rfl, hb7⟩
        have HB7 := Lib.hid (HB6.out.trans (hb7.mono HB6.out.size))
        clear hb7
        go_wp2
        go_ret
        exact ⟨rfl, HB7.out⟩
end Go.Proofs.Ytjgdmkmfnkaoaaa
