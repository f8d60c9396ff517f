/-
  The document's own answer for the Arp of bytes (caravelref05.ParseArp): what the plain function gives. Every text.
-/
import Derived.Test.YtooepllgefndnaaRefBuildArp
import Derived.Test.YtooepllgefndnaaRefParseB
import Derived.Test.YtooepllgefndnaaParseArp
import Derived.Deep.RegionHeld
namespace Go.Proofs.Ytooepllgefndnaa
open Go.RowKit

set_option maxRecDepth 100000 in
set_option maxHeartbeats 1000000 in
theorem refparsearp_cut (l : List UInt8) (w : World) (hn : l.length < 28) :
    Calls Try.prog 18 #[txt l] w (ArpPost w (Ar.zero, 6)) := by
  have HB := Lib.hid ((Below.refl w.heap.size w).alloc (Nat.le_refl _) (.cells #[.int .i64 0, .int .u8 0, .int .u8 0, .int .u8 0, .int .u8 0, .int .u8 0, .int .u8 0, .int .u8 0, .int .u8 0, .int .u8 0, .int .u8 0, .int .u8 0, .int .u8 0, .int .u8 0, .int .u8 0, .int .u8 0, .int .u8 0, .int .u8 0, .int .u8 0, .int .u8 0, .int .u8 0] 44))
  have HG := Lib.hid (heap_alloc_new w (.cells #[.int .i64 0, .int .u8 0, .int .u8 0, .int .u8 0, .int .u8 0, .int .u8 0, .int .u8 0, .int .u8 0, .int .u8 0, .int .u8 0, .int .u8 0, .int .u8 0, .int .u8 0, .int .u8 0, .int .u8 0, .int .u8 0, .int .u8 0, .int .u8 0, .int .u8 0, .int .u8 0, .int .u8 0] 44))
  go_enter Try.func18, Try.ntmps18
  go_wp2_with (refine wpList_store_row rfl 44 _ _ rfl w.heap.size #[.int .i64 0, .int .u8 0, .int .u8 0, .int .u8 0, .int .u8 0, .int .u8 0, .int .u8 0, .int .u8 0, .int .u8 0, .int .u8 0, .int .u8 0, .int .u8 0, .int .u8 0, .int .u8 0, .int .u8 0, .int .u8 0, .int .u8 0, .int .u8 0, .int .u8 0, .int .u8 0, .int .u8 0] rfl rfl _ _ HG.out (by kernel_rfl) rfl (by kernel_rfl) ?_)
  (try simp only [Exit.inBlock, Exit.then])
  refine ret_row (g := w.heap.size) (cs := #[.int .i64 0, .int .u8 0, .int .u8 0, .int .u8 0, .int .u8 0, .int .u8 0, .int .u8 0, .int .u8 0, .int .u8 0, .int .u8 0, .int .u8 0, .int .u8 0, .int .u8 0, .int .u8 0, .int .u8 0, .int .u8 0, .int .u8 0, .int .u8 0, .int .u8 0, .int .u8 0, .int .u8 0]) rfl rfl (load_ar (setRow_heap _ _ _ _ _ _ HG.out) rfl) rfl ?_
  exact ⟨_, rfl, zero_arV, below_setRow HB.out (Nat.le_refl _) _⟩

/-- an Arp's bytes are these just if they begin as an Arp does -/
theorem head_iff (kl : List UInt8) (o x0 x1 x2 x3 x4 x5 y0 y1 y2 y3 u0 u1 u2 u3 u4 u5 v0 v1 v2 v3 : UInt8) (hkl : kl.length = 7) : (⟨(o.toNat : Int), [x0, x1, x2, x3, x4, x5], [y0, y1, y2, y3], [u0, u1, u2, u3, u4, u5], [v0, v1, v2, v3]⟩ : Ar).bytes = kl ++ [o, x0, x1, x2, x3, x4, x5, y0, y1, y2, y3, u0, u1, u2, u3, u4, u5, v0, v1, v2, v3] ↔ kl = headB := by
  have e : (⟨(o.toNat : Int), [x0, x1, x2, x3, x4, x5], [y0, y1, y2, y3], [u0, u1, u2, u3, u4, u5], [v0, v1, v2, v3]⟩ : Ar).bytes = headB ++ [o, x0, x1, x2, x3, x4, x5, y0, y1, y2, y3, u0, u1, u2, u3, u4, u5, v0, v1, v2, v3] := by
    simp [Ar.bytes]
  rw [e]
  constructor
  · intro h
    exact (List.append_inj h (by rw [hkl]; rfl)).1.symm
  · rintro rfl
    rfl

set_option maxRecDepth 100000 in
set_option maxHeartbeats 4000000 in
theorem refparsearp_full (l kl : List UInt8) (o x0 x1 x2 x3 x4 x5 y0 y1 y2 y3 u0 u1 u2 u3 u4 u5 v0 v1 v2 v3 : UInt8) (w : World) (hkl : kl.length = 7) (hl1 : 28 ≤ l.length) (hl2 : l.length ≤ 1000000000)
    (s1 : (⟨l.toArray⟩ : ByteArray).extract 8 14 = ⟨#[x0, x1, x2, x3, x4, x5]⟩) (s2 : (⟨l.toArray⟩ : ByteArray).extract 14 18 = ⟨#[y0, y1, y2, y3]⟩) (s3 : (⟨l.toArray⟩ : ByteArray).extract 18 24 = ⟨#[u0, u1, u2, u3, u4, u5]⟩) (s4 : (⟨l.toArray⟩ : ByteArray).extract 24 28 = ⟨#[v0, v1, v2, v3]⟩)
    (s5 : (⟨l.toArray⟩ : ByteArray).extract 0 28 = ⟨(kl ++ [o, x0, x1, x2, x3, x4, x5, y0, y1, y2, y3, u0, u1, u2, u3, u4, u5, v0, v1, v2, v3]).toArray⟩) (i7 : ∀ hh, ((⟨l.toArray⟩ : ByteArray)[7]'hh).toNat = o.toNat) :
    Calls Try.prog 18 #[txt l] w (ArpPost w (if kl = headB ∧ knownB (o.toNat : Int) = true then ((⟨(o.toNat : Int), [x0, x1, x2, x3, x4, x5], [y0, y1, y2, y3], [u0, u1, u2, u3, u4, u5], [v0, v1, v2, v3]⟩ : Ar), 0) else (Ar.zero, 7))) := by
  have HB0 := Lib.hid ((Below.refl w.heap.size w).alloc (Nat.le_refl _) (.cells #[.int .i64 0, .int .u8 0, .int .u8 0, .int .u8 0, .int .u8 0, .int .u8 0, .int .u8 0, .int .u8 0, .int .u8 0, .int .u8 0, .int .u8 0, .int .u8 0, .int .u8 0, .int .u8 0, .int .u8 0, .int .u8 0, .int .u8 0, .int .u8 0, .int .u8 0, .int .u8 0, .int .u8 0] 44))
  have HG0 := Lib.hid (heap_alloc_new w (.cells #[.int .i64 0, .int .u8 0, .int .u8 0, .int .u8 0, .int .u8 0, .int .u8 0, .int .u8 0, .int .u8 0, .int .u8 0, .int .u8 0, .int .u8 0, .int .u8 0, .int .u8 0, .int .u8 0, .int .u8 0, .int .u8 0, .int .u8 0, .int .u8 0, .int .u8 0, .int .u8 0, .int .u8 0] 44))
  have b1 : (28 : Int) ≤ (l.length : Int) := by omega
  have b2 : (14 : Int) ≤ (l.length : Int) := by omega
  have b3 : (18 : Int) ≤ (l.length : Int) := by omega
  have b4 : (24 : Int) ≤ (l.length : Int) := by omega
  have b5 : (7 : Int) < (l.length : Int) := by omega
  have b6 : 7 < l.length := by omega
  have hw64 : wrap64 (o.toNat : Int) = (o.toNat : Int) := by
    have := o.toNat_lt
    unfold wrap64
    omega
  obtain ⟨TT, hTT⟩ : ∃ T, (⟨(o.toNat : Int), [x0, x1, x2, x3, x4, x5], [y0, y1, y2, y3], [u0, u1, u2, u3, u4, u5], [v0, v1, v2, v3]⟩ : Ar).bytes = T := ⟨_, rfl⟩
  obtain ⟨MM, hMM⟩ : ∃ M, kl ++ [o, x0, x1, x2, x3, x4, x5, y0, y1, y2, y3, u0, u1, u2, u3, u4, u5, v0, v1, v2, v3] = M := ⟨_, rfl⟩
  have hcmp := head_iff kl o x0 x1 x2 x3 x4 x5 y0 y1 y2 y3 u0 u1 u2 u3 u4 u5 v0 v1 v2 v3 hkl
  rw [hMM, hTT] at hcmp
  rw [hMM] at s5
  have HS5 := Lib.hid s5
  have HEQ : Hid (TT = MM → kl = headB) := hcmp.1
  have HNE : Hid (kl = headB ∧ knownB (o.toNat : Int) = true → TT = MM) := fun h => hcmp.2 h.1
  have HTT := Lib.hid hTT
  clear s5 hcmp hTT hMM hkl
  have hw65 : IntKind.i64.wrap (o.toNat : Int) = (o.toNat : Int) := by
    have := o.toNat_lt
    exact IntWalk.i64_in _ (by omega)
  generalize hR : (if kl = headB ∧ knownB (o.toNat : Int) = true then ((⟨(o.toNat : Int), [x0, x1, x2, x3, x4, x5], [y0, y1, y2, y3], [u0, u1, u2, u3, u4, u5], [v0, v1, v2, v3]⟩ : Ar), (0 : Int)) else (Ar.zero, 7)) = R
  have HR := Lib.hid hR
  clear hR
  go_enter Try.func18, Try.ntmps18
  go_wp2_with fail
  generalize w.alloc (.cells #[.int .i64 0, .int .u8 0, .int .u8 0, .int .u8 0, .int .u8 0, .int .u8 0, .int .u8 0, .int .u8 0, .int .u8 0, .int .u8 0, .int .u8 0, .int .u8 0, .int .u8 0, .int .u8 0, .int .u8 0, .int .u8 0, .int .u8 0, .int .u8 0, .int .u8 0, .int .u8 0, .int .u8 0] 44) = w0 at HB0 HG0 ⊢
  have hHeld : Below w0.heap.size w0 w0.drew := (Below.refl _ _).drew
  refine wp_region_held_drew (S := fun w' => Below w0.heap.size w0 w') (by kernel_rfl) hHeld (fun _ => ?_)
  generalize w0.drew = wd at hHeld ⊢
  repeat (first | (refine wpAnyH_take (i := 0) (oi := ?_) (v := ?_) (by simp only [List.getElem?_toArray, List.getElem?_cons_zero]; rfl) (by kernel_rfl) (by decide +kernel) (by decide +kernel) (by exact fun _ _ _ h => h) (Or.inl ⟨by rfl, ?_⟩) (by assumption) ?_; rotate_left; (focus (intro w hSw; go_simp; (try with_reducible rfl); done)); (try simp only [Act.put, List.setIfInBounds_toArray, List.set_cons_zero, List.set_cons_succ])) | (refine wpAnyH_take (i := 1) (oi := ?_) (v := ?_) (by simp only [List.getElem?_toArray, List.getElem?_cons_zero, List.getElem?_cons_succ]; rfl) (by kernel_rfl) (by decide +kernel) (by decide +kernel) (by exact fun _ _ _ h => h) (Or.inl ⟨by rfl, ?_⟩) (by assumption) ?_; rotate_left; (focus (intro w hSw; go_simp; (try with_reducible rfl); done)); (try simp only [Act.put, List.setIfInBounds_toArray, List.set_cons_zero, List.set_cons_succ])) | (refine wpAnyH_take (i := 2) (oi := ?_) (v := ?_) (by simp only [List.getElem?_toArray, List.getElem?_cons_zero, List.getElem?_cons_succ]; rfl) (by kernel_rfl) (by decide +kernel) (by decide +kernel) (by exact fun _ _ _ h => h) (Or.inl ⟨by rfl, ?_⟩) (by assumption) ?_; rotate_left; (focus (intro w hSw; go_simp; (try with_reducible rfl); done)); (try simp only [Act.put, List.setIfInBounds_toArray, List.set_cons_zero, List.set_cons_succ])) | (refine wpAnyH_take (i := 3) (oi := ?_) (v := ?_) (by simp only [List.getElem?_toArray, List.getElem?_cons_zero, List.getElem?_cons_succ]; rfl) (by kernel_rfl) (by decide +kernel) (by decide +kernel) (by exact fun _ _ _ h => h) (Or.inl ⟨by rfl, ?_⟩) (by assumption) ?_; rotate_left; (focus (intro w hSw; go_simp; (try with_reducible rfl); done)); (try simp only [Act.put, List.setIfInBounds_toArray, List.set_cons_zero, List.set_cons_succ])) | (refine wpAnyH_take (i := 4) (oi := ?_) (v := ?_) (by simp only [List.getElem?_toArray, List.getElem?_cons_zero, List.getElem?_cons_succ]; rfl) (by kernel_rfl) (by decide +kernel) (by decide +kernel) (by exact fun _ _ _ h => h) (Or.inl ⟨by rfl, ?_⟩) (by assumption) ?_; rotate_left; (focus (intro w hSw; go_simp; (try with_reducible rfl); done)); (try simp only [Act.put, List.setIfInBounds_toArray, List.set_cons_zero, List.set_cons_succ])) | (refine wpAnyH_take (i := 6) (oi := ?_) (v := ?_) (by simp only [List.getElem?_toArray, List.getElem?_cons_zero, List.getElem?_cons_succ]; rfl) (by kernel_rfl) (by decide +kernel) (by decide +kernel) (by exact fun _ _ _ h => h) (Or.inl ⟨by rfl, ?_⟩) (by assumption) ?_; rotate_left; (focus (intro w hSw; go_simp; (try with_reducible rfl); done)); (try simp only [Act.put, List.setIfInBounds_toArray, List.set_cons_zero, List.set_cons_succ])) | (refine wpAnyH_take (i := 7) (oi := ?_) (v := ?_) (by simp only [List.getElem?_toArray, List.getElem?_cons_zero, List.getElem?_cons_succ]; rfl) (by kernel_rfl) (by decide +kernel) (by decide +kernel) (by exact fun _ _ _ h => h) (Or.inl ⟨by rfl, ?_⟩) (by assumption) ?_; rotate_left; (focus (intro w hSw; go_simp; (try with_reducible rfl); done)); (try simp only [Act.put, List.setIfInBounds_toArray, List.set_cons_zero, List.set_cons_succ])) | (refine wpAnyH_take (i := 9) (oi := ?_) (v := ?_) (by simp only [List.getElem?_toArray, List.getElem?_cons_zero, List.getElem?_cons_succ]; rfl) (by kernel_rfl) (by decide +kernel) (by decide +kernel) (by exact fun _ _ _ h => h) (Or.inl ⟨by rfl, ?_⟩) (by assumption) ?_; rotate_left; (focus (intro w hSw; go_simp; (try with_reducible rfl); done)); (try simp only [Act.put, List.setIfInBounds_toArray, List.set_cons_zero, List.set_cons_succ])) | (refine wpAnyH_take (i := 10) (oi := ?_) (v := ?_) (by simp only [List.getElem?_toArray, List.getElem?_cons_zero, List.getElem?_cons_succ]; rfl) (by kernel_rfl) (by decide +kernel) (by decide +kernel) (by exact fun _ _ _ h => h) (Or.inl ⟨by rfl, ?_⟩) (by assumption) ?_; rotate_left; (focus (intro w hSw; go_simp; (try with_reducible rfl); done)); (try simp only [Act.put, List.setIfInBounds_toArray, List.set_cons_zero, List.set_cons_succ])) | (refine wpAnyH_take (i := 12) (oi := ?_) (v := ?_) (by simp only [List.getElem?_toArray, List.getElem?_cons_zero, List.getElem?_cons_succ]; rfl) (by kernel_rfl) (by decide +kernel) (by decide +kernel) (by exact fun _ _ _ h => h) (Or.inl ⟨by rfl, ?_⟩) (by assumption) ?_; rotate_left; (focus (intro w hSw; go_simp; (try with_reducible rfl); done)); (try simp only [Act.put, List.setIfInBounds_toArray, List.set_cons_zero, List.set_cons_succ])) | (refine wpAnyH_take (i := 13) (oi := ?_) (v := ?_) (by simp only [List.getElem?_toArray, List.getElem?_cons_zero, List.getElem?_cons_succ]; rfl) (by kernel_rfl) (by decide +kernel) (by decide +kernel) (by exact fun _ _ _ h => h) (Or.inl ⟨by rfl, ?_⟩) (by assumption) ?_; rotate_left; (focus (intro w hSw; go_simp; (try with_reducible rfl); done)); (try simp only [Act.put, List.setIfInBounds_toArray, List.set_cons_zero, List.set_cons_succ])))
  refine wpAnyH_ready (rs := [5, 16]) (by decide +kernel) (by simp) ?_
  refine AllReadyH.cons (o := ?_) (by simp only [List.getElem?_toArray, List.getElem?_cons_zero, List.getElem?_cons_succ]; rfl) (fun K hK => ?_) ?_
  · go_simp
    refine (ascard_lit _ _ _ _ _ _ _).mono ?_
    rintro e ww1 ⟨rfl, hb1⟩
    (try go_wp2_with fail)
    refine hK.out _ _ (hHeld.trans (hb1.mono hHeld.size)) (fun hNew => ?_)
    clear hK K hHeld
    have hHeld := hNew
    clear hNew
    (try simp only [Act.put, List.setIfInBounds_toArray, List.set_cons_zero, List.set_cons_succ])
    refine wpAnyH_ready (rs := [8, 16]) (by decide +kernel) (by simp) ?_
    refine AllReadyH.cons (o := ?_) (by simp only [List.getElem?_toArray, List.getElem?_cons_zero, List.getElem?_cons_succ]; rfl) (fun K hK => ?_) ?_
    · go_simp
      refine (ashost_lit _ _ _ _ _).mono ?_
      rintro e ww2 ⟨rfl, hb2⟩
      (try go_wp2_with fail)
      refine hK.out _ _ (hHeld.trans (hb2.mono hHeld.size)) (fun hNew => ?_)
      clear hK K hHeld
      have hHeld := hNew
      clear hNew
      (try simp only [Act.put, List.setIfInBounds_toArray, List.set_cons_zero, List.set_cons_succ])
      refine wpAnyH_ready (rs := [11, 16]) (by decide +kernel) (by simp) ?_
      refine AllReadyH.cons (o := ?_) (by simp only [List.getElem?_toArray, List.getElem?_cons_zero, List.getElem?_cons_succ]; rfl) (fun K hK => ?_) ?_
      · go_simp
        refine (ascard_lit _ _ _ _ _ _ _).mono ?_
        rintro e ww3 ⟨rfl, hb3⟩
        (try go_wp2_with fail)
        refine hK.out _ _ (hHeld.trans (hb3.mono hHeld.size)) (fun hNew => ?_)
        clear hK K hHeld
        have hHeld := hNew
        clear hNew
        (try simp only [Act.put, List.setIfInBounds_toArray, List.set_cons_zero, List.set_cons_succ])
        refine wpAnyH_ready (rs := [14, 16]) (by decide +kernel) (by simp) ?_
        refine AllReadyH.cons (o := ?_) (by simp only [List.getElem?_toArray, List.getElem?_cons_zero, List.getElem?_cons_succ]; rfl) (fun K hK => ?_) ?_
        · go_simp
          refine (ashost_lit _ _ _ _ _).mono ?_
          rintro e ww4 ⟨rfl, hb4⟩
          (try go_wp2_with fail)
          refine hK.out _ _ (hHeld.trans (hb4.mono hHeld.size)) (fun hNew => ?_)
          clear hK K hHeld
          have hHeld := hNew
          clear hNew
          (try simp only [Act.put, List.setIfInBounds_toArray, List.set_cons_zero, List.set_cons_succ])
          (refine wpAnyH_take (i := 15) (oi := ?_) (v := ?_) (by simp only [List.getElem?_toArray, List.getElem?_cons_zero, List.getElem?_cons_succ]; rfl) (by kernel_rfl) (by decide +kernel) (by decide +kernel) (by exact fun _ _ _ h => h) (Or.inl ⟨by rfl, ?_⟩) (by assumption) ?_; rotate_left; (focus (intro w hSw; go_simp; (try with_reducible rfl); done)); (try simp only [Act.put, List.setIfInBounds_toArray, List.set_cons_zero, List.set_cons_succ]))
          refine wpAnyH_ready (rs := [16]) (by decide +kernel) (by simp) ?_
          refine AllReadyH.cons (o := ?_) (by simp only [List.getElem?_toArray, List.getElem?_cons_zero, List.getElem?_cons_succ]; rfl) (fun K hK => ?_) ?_
          · go_simp
            have hrow := heap_alloc_new (ww4) (.cells #[.int .i64 0, .int .u8 0, .int .u8 0, .int .u8 0, .int .u8 0, .int .u8 0, .int .u8 0, .int .u8 0, .int .u8 0, .int .u8 0, .int .u8 0, .int .u8 0, .int .u8 0, .int .u8 0, .int .u8 0, .int .u8 0, .int .u8 0, .int .u8 0, .int .u8 0, .int .u8 0, .int .u8 0] 44)
            have hlow := hHeld.size
            refine hK.out _ _ (hHeld.alloc hHeld.size _) (fun hNew => ?_)
            clear hK K hHeld
            have hHeld := hNew
            clear hNew
            (try simp only [Act.put, List.setIfInBounds_toArray, List.set_cons_zero, List.set_cons_succ])
            generalize hgg : (ww4).heap.size = gg at hrow hlow ⊢
            generalize hv5 : (ww4).alloc (.cells #[.int .i64 0, .int .u8 0, .int .u8 0, .int .u8 0, .int .u8 0, .int .u8 0, .int .u8 0, .int .u8 0, .int .u8 0, .int .u8 0, .int .u8 0, .int .u8 0, .int .u8 0, .int .u8 0, .int .u8 0, .int .u8 0, .int .u8 0, .int .u8 0, .int .u8 0, .int .u8 0, .int .u8 0] 44) = ww5 at hrow hHeld ⊢
            clear hgg hv5
            refine wpAnyH_ready (rs := [17]) (by decide +kernel) (by simp) ?_
            refine AllReadyH.cons (o := ?_) (by simp only [List.getElem?_toArray, List.getElem?_cons_zero, List.getElem?_cons_succ]; rfl) (fun K hK => ?_) AllReadyH.nil
            rw [if_pos (by rfl)]
            refine wp_store_row _ _ _ rfl gg #[.int .i64 (o.toNat : Int), .int .u8 (x0.toNat : Int), .int .u8 (x1.toNat : Int), .int .u8 (x2.toNat : Int), .int .u8 (x3.toNat : Int), .int .u8 (x4.toNat : Int), .int .u8 (x5.toNat : Int), .int .u8 (y0.toNat : Int), .int .u8 (y1.toNat : Int), .int .u8 (y2.toNat : Int), .int .u8 (y3.toNat : Int), .int .u8 (u0.toNat : Int), .int .u8 (u1.toNat : Int), .int .u8 (u2.toNat : Int), .int .u8 (u3.toNat : Int), .int .u8 (u4.toNat : Int), .int .u8 (u5.toNat : Int), .int .u8 (v0.toNat : Int), .int .u8 (v1.toNat : Int), .int .u8 (v2.toNat : Int), .int .u8 (v3.toNat : Int)] rfl rfl _ _ hrow (by kernel_rfl) rfl (by kernel_rfl) ?_
            refine hK.out _ _ (below_setRow hHeld hlow _) (fun _ => ?_)
            (try simp only [Act.put])
            refine wpAnyH_done (by decide +kernel) ?_ _
            clear hK K
            have HBv : Hid (Below w.heap.size w (ww5.setRow gg #[.int .i64 (o.toNat : Int), .int .u8 (x0.toNat : Int), .int .u8 (x1.toNat : Int), .int .u8 (x2.toNat : Int), .int .u8 (x3.toNat : Int), .int .u8 (x4.toNat : Int), .int .u8 (x5.toNat : Int), .int .u8 (y0.toNat : Int), .int .u8 (y1.toNat : Int), .int .u8 (y2.toNat : Int), .int .u8 (y3.toNat : Int), .int .u8 (u0.toNat : Int), .int .u8 (u1.toNat : Int), .int .u8 (u2.toNat : Int), .int .u8 (u3.toNat : Int), .int .u8 (u4.toNat : Int), .int .u8 (u5.toNat : Int), .int .u8 (v0.toNat : Int), .int .u8 (v1.toNat : Int), .int .u8 (v2.toNat : Int), .int .u8 (v3.toNat : Int)])) := below_setRow (HB0.out.trans (hHeld.mono HB0.out.size)) (Nat.le_of_lt (Nat.lt_of_lt_of_le (row_lt HG0.out) hlow)) _
            have HGv : Hid ((ww5.setRow gg #[.int .i64 (o.toNat : Int), .int .u8 (x0.toNat : Int), .int .u8 (x1.toNat : Int), .int .u8 (x2.toNat : Int), .int .u8 (x3.toNat : Int), .int .u8 (x4.toNat : Int), .int .u8 (x5.toNat : Int), .int .u8 (y0.toNat : Int), .int .u8 (y1.toNat : Int), .int .u8 (y2.toNat : Int), .int .u8 (y3.toNat : Int), .int .u8 (u0.toNat : Int), .int .u8 (u1.toNat : Int), .int .u8 (u2.toNat : Int), .int .u8 (u3.toNat : Int), .int .u8 (u4.toNat : Int), .int .u8 (u5.toNat : Int), .int .u8 (v0.toNat : Int), .int .u8 (v1.toNat : Int), .int .u8 (v2.toNat : Int), .int .u8 (v3.toNat : Int)]).heap[w.heap.size]? = some (.cells #[.int .i64 0, .int .u8 0, .int .u8 0, .int .u8 0, .int .u8 0, .int .u8 0, .int .u8 0, .int .u8 0, .int .u8 0, .int .u8 0, .int .u8 0, .int .u8 0, .int .u8 0, .int .u8 0, .int .u8 0, .int .u8 0, .int .u8 0, .int .u8 0, .int .u8 0, .int .u8 0, .int .u8 0] 44 (0, 0))) := (setRow_other ww5 gg w.heap.size _ (Nat.ne_of_lt (Nat.lt_of_lt_of_le (row_lt HG0.out) hlow))).trans ((hHeld.block _ (row_lt HG0.out)).trans HG0.out)
            have HAv : Hid ((ww5.setRow gg #[.int .i64 (o.toNat : Int), .int .u8 (x0.toNat : Int), .int .u8 (x1.toNat : Int), .int .u8 (x2.toNat : Int), .int .u8 (x3.toNat : Int), .int .u8 (x4.toNat : Int), .int .u8 (x5.toNat : Int), .int .u8 (y0.toNat : Int), .int .u8 (y1.toNat : Int), .int .u8 (y2.toNat : Int), .int .u8 (y3.toNat : Int), .int .u8 (u0.toNat : Int), .int .u8 (u1.toNat : Int), .int .u8 (u2.toNat : Int), .int .u8 (u3.toNat : Int), .int .u8 (u4.toNat : Int), .int .u8 (u5.toNat : Int), .int .u8 (v0.toNat : Int), .int .u8 (v1.toNat : Int), .int .u8 (v2.toNat : Int), .int .u8 (v3.toNat : Int)]).heap[gg]? = some (.cells #[.int .i64 (o.toNat : Int), .int .u8 (x0.toNat : Int), .int .u8 (x1.toNat : Int), .int .u8 (x2.toNat : Int), .int .u8 (x3.toNat : Int), .int .u8 (x4.toNat : Int), .int .u8 (x5.toNat : Int), .int .u8 (y0.toNat : Int), .int .u8 (y1.toNat : Int), .int .u8 (y2.toNat : Int), .int .u8 (y3.toNat : Int), .int .u8 (u0.toNat : Int), .int .u8 (u1.toNat : Int), .int .u8 (u2.toNat : Int), .int .u8 (u3.toNat : Int), .int .u8 (u4.toNat : Int), .int .u8 (u5.toNat : Int), .int .u8 (v0.toNat : Int), .int .u8 (v1.toNat : Int), .int .u8 (v2.toNat : Int), .int .u8 (v3.toNat : Int)] 44 (0, 0))) := setRow_heap _ _ _ _ _ _ hrow
            have HLv : Hid (w.heap.size < gg) := Nat.lt_of_lt_of_le (row_lt HG0.out) hlow
            clear hHeld hrow hlow
            generalize ww5.setRow gg #[.int .i64 (o.toNat : Int), .int .u8 (x0.toNat : Int), .int .u8 (x1.toNat : Int), .int .u8 (x2.toNat : Int), .int .u8 (x3.toNat : Int), .int .u8 (x4.toNat : Int), .int .u8 (x5.toNat : Int), .int .u8 (y0.toNat : Int), .int .u8 (y1.toNat : Int), .int .u8 (y2.toNat : Int), .int .u8 (y3.toNat : Int), .int .u8 (u0.toNat : Int), .int .u8 (u1.toNat : Int), .int .u8 (u2.toNat : Int), .int .u8 (u3.toNat : Int), .int .u8 (u4.toNat : Int), .int .u8 (u5.toNat : Int), .int .u8 (v0.toNat : Int), .int .u8 (v1.toNat : Int), .int .u8 (v2.toNat : Int), .int .u8 (v3.toNat : Int)] = v9 at HBv HGv HAv ⊢
            have hcl := refbuildarp_any #[.int .i64 (o.toNat : Int), .int .u8 (x0.toNat : Int), .int .u8 (x1.toNat : Int), .int .u8 (x2.toNat : Int), .int .u8 (x3.toNat : Int), .int .u8 (x4.toNat : Int), .int .u8 (x5.toNat : Int), .int .u8 (y0.toNat : Int), .int .u8 (y1.toNat : Int), .int .u8 (y2.toNat : Int), .int .u8 (y3.toNat : Int), .int .u8 (u0.toNat : Int), .int .u8 (u1.toNat : Int), .int .u8 (u2.toNat : Int), .int .u8 (u3.toNat : Int), .int .u8 (u4.toNat : Int), .int .u8 (u5.toNat : Int), .int .u8 (v0.toNat : Int), .int .u8 (v1.toNat : Int), .int .u8 (v2.toNat : Int), .int .u8 (v3.toNat : Int)] (⟨(o.toNat : Int), [x0, x1, x2, x3, x4, x5], [y0, y1, y2, y3], [u0, u1, u2, u3, u4, u5], [v0, v1, v2, v3]⟩ : Ar) v9 ⟨rfl, rfl, rfl, rfl, rfl⟩
            by_cases hk : knownB (o.toNat : Int) = true
            · rw [show buildA (⟨(o.toNat : Int), [x0, x1, x2, x3, x4, x5], [y0, y1, y2, y3], [u0, u1, u2, u3, u4, u5], [v0, v1, v2, v3]⟩ : Ar) = ((⟨(o.toNat : Int), [x0, x1, x2, x3, x4, x5], [y0, y1, y2, y3], [u0, u1, u2, u3, u4, u5], [v0, v1, v2, v3]⟩ : Ar).bytes, 0) from by unfold buildA; rw [if_pos hk]] at hcl
              have HCL := Lib.hid hcl
              clear hcl
              by_cases hT : TT = MM
              · have HRR := Lib.hid (HR.out.symm.trans (if_pos ⟨HEQ.out hT, hk⟩))
                have s6 := HS5.out.trans (congrArg (fun x : List UInt8 => (⟨x.toArray⟩ : ByteArray)) hT.symm)
                have HTT2 := Lib.hid HTT.out
                clear hk hT
                go_wp2_with (refine wpList_load_row rfl 44 _ rfl gg rfl _ #[.int .i64 (o.toNat : Int), .int .u8 (x0.toNat : Int), .int .u8 (x1.toNat : Int), .int .u8 (x2.toNat : Int), .int .u8 (x3.toNat : Int), .int .u8 (x4.toNat : Int), .int .u8 (x5.toNat : Int), .int .u8 (y0.toNat : Int), .int .u8 (y1.toNat : Int), .int .u8 (y2.toNat : Int), .int .u8 (y3.toNat : Int), .int .u8 (u0.toNat : Int), .int .u8 (u1.toNat : Int), .int .u8 (u2.toNat : Int), .int .u8 (u3.toNat : Int), .int .u8 (u4.toNat : Int), .int .u8 (u5.toNat : Int), .int .u8 (v0.toNat : Int), .int .u8 (v1.toNat : Int), .int .u8 (v2.toNat : Int), .int .u8 (v3.toNat : Int)] _ _ HAv.out Try.underlying44 rfl (by kernel_rfl) ?_)
                refine HCL.out.mono ?_
                rintro e va ⟨rfl, hba⟩
                rw [HTT.out]
                have HBa := Lib.hid (HBv.out.trans (hba.mono HBv.out.size))
                have HGa := Lib.hid ((hba.block _ (row_lt HGv.out)).trans HGv.out)
                have HAa := Lib.hid ((hba.block _ (row_lt HAv.out)).trans HAv.out)
                clear hba HBv HGv HAv HCL
                go_wp2_with (first | refine wpList_load_row rfl 44 _ rfl gg rfl _ #[.int .i64 (o.toNat : Int), .int .u8 (x0.toNat : Int), .int .u8 (x1.toNat : Int), .int .u8 (x2.toNat : Int), .int .u8 (x3.toNat : Int), .int .u8 (x4.toNat : Int), .int .u8 (x5.toNat : Int), .int .u8 (y0.toNat : Int), .int .u8 (y1.toNat : Int), .int .u8 (y2.toNat : Int), .int .u8 (y3.toNat : Int), .int .u8 (u0.toNat : Int), .int .u8 (u1.toNat : Int), .int .u8 (u2.toNat : Int), .int .u8 (u3.toNat : Int), .int .u8 (u4.toNat : Int), .int .u8 (u5.toNat : Int), .int .u8 (v0.toNat : Int), .int .u8 (v1.toNat : Int), .int .u8 (v2.toNat : Int), .int .u8 (v3.toNat : Int)] _ _ HAa.out Try.underlying44 rfl (by kernel_rfl) ?_ | refine wpList_store_row rfl 44 _ _ rfl w.heap.size #[.int .i64 (o.toNat : Int), .int .u8 (x0.toNat : Int), .int .u8 (x1.toNat : Int), .int .u8 (x2.toNat : Int), .int .u8 (x3.toNat : Int), .int .u8 (x4.toNat : Int), .int .u8 (x5.toNat : Int), .int .u8 (y0.toNat : Int), .int .u8 (y1.toNat : Int), .int .u8 (y2.toNat : Int), .int .u8 (y3.toNat : Int), .int .u8 (u0.toNat : Int), .int .u8 (u1.toNat : Int), .int .u8 (u2.toNat : Int), .int .u8 (u3.toNat : Int), .int .u8 (u4.toNat : Int), .int .u8 (u5.toNat : Int), .int .u8 (v0.toNat : Int), .int .u8 (v1.toNat : Int), .int .u8 (v2.toNat : Int), .int .u8 (v3.toNat : Int)] rfl rfl _ _ HGa.out (by kernel_rfl) rfl (by kernel_rfl) ?_)
                (try simp only [Exit.inBlock, Exit.then])
                refine ret_row (g := w.heap.size) (cs := #[.int .i64 (o.toNat : Int), .int .u8 (x0.toNat : Int), .int .u8 (x1.toNat : Int), .int .u8 (x2.toNat : Int), .int .u8 (x3.toNat : Int), .int .u8 (x4.toNat : Int), .int .u8 (x5.toNat : Int), .int .u8 (y0.toNat : Int), .int .u8 (y1.toNat : Int), .int .u8 (y2.toNat : Int), .int .u8 (y3.toNat : Int), .int .u8 (u0.toNat : Int), .int .u8 (u1.toNat : Int), .int .u8 (u2.toNat : Int), .int .u8 (u3.toNat : Int), .int .u8 (u4.toNat : Int), .int .u8 (u5.toNat : Int), .int .u8 (v0.toNat : Int), .int .u8 (v1.toNat : Int), .int .u8 (v2.toNat : Int), .int .u8 (v3.toNat : Int)]) rfl rfl (load_ar (setRow_heap va _ _ _ _ _ HGa.out) rfl) rfl ?_
                rw [HRR.out]
                exact ⟨_, rfl, ⟨rfl, rfl, rfl, rfl, rfl⟩, below_setRow HBa.out (Nat.le_refl _) _⟩
              · have HRR := Lib.hid (HR.out.symm.trans (if_neg fun h => hT (HNE.out h)))
                obtain ⟨z1, z2⟩ := texts_ne hT
                have s6 := HS5.out
                clear hk hT
                go_wp2_with (refine wpList_load_row rfl 44 _ rfl gg rfl _ #[.int .i64 (o.toNat : Int), .int .u8 (x0.toNat : Int), .int .u8 (x1.toNat : Int), .int .u8 (x2.toNat : Int), .int .u8 (x3.toNat : Int), .int .u8 (x4.toNat : Int), .int .u8 (x5.toNat : Int), .int .u8 (y0.toNat : Int), .int .u8 (y1.toNat : Int), .int .u8 (y2.toNat : Int), .int .u8 (y3.toNat : Int), .int .u8 (u0.toNat : Int), .int .u8 (u1.toNat : Int), .int .u8 (u2.toNat : Int), .int .u8 (u3.toNat : Int), .int .u8 (u4.toNat : Int), .int .u8 (u5.toNat : Int), .int .u8 (v0.toNat : Int), .int .u8 (v1.toNat : Int), .int .u8 (v2.toNat : Int), .int .u8 (v3.toNat : Int)] _ _ HAv.out Try.underlying44 rfl (by kernel_rfl) ?_)
                refine HCL.out.mono ?_
                rintro e va ⟨rfl, hba⟩
                rw [HTT.out]
                have HBa := Lib.hid (HBv.out.trans (hba.mono HBv.out.size))
                have HGa := Lib.hid ((hba.block _ (row_lt HGv.out)).trans HGv.out)
                clear hba HBv HGv HAv HCL
                go_wp2_with (refine wpList_store_row rfl 44 _ _ rfl w.heap.size #[.int .i64 0, .int .u8 0, .int .u8 0, .int .u8 0, .int .u8 0, .int .u8 0, .int .u8 0, .int .u8 0, .int .u8 0, .int .u8 0, .int .u8 0, .int .u8 0, .int .u8 0, .int .u8 0, .int .u8 0, .int .u8 0, .int .u8 0, .int .u8 0, .int .u8 0, .int .u8 0, .int .u8 0] rfl rfl _ _ HGa.out (by kernel_rfl) rfl (by kernel_rfl) ?_)
                (try simp only [Exit.inBlock, Exit.then])
                refine ret_row (g := w.heap.size) (cs := #[.int .i64 0, .int .u8 0, .int .u8 0, .int .u8 0, .int .u8 0, .int .u8 0, .int .u8 0, .int .u8 0, .int .u8 0, .int .u8 0, .int .u8 0, .int .u8 0, .int .u8 0, .int .u8 0, .int .u8 0, .int .u8 0, .int .u8 0, .int .u8 0, .int .u8 0, .int .u8 0, .int .u8 0]) rfl rfl (load_ar (setRow_heap va _ _ _ _ _ HGa.out) rfl) rfl ?_
                rw [HRR.out]
                exact ⟨_, rfl, zero_arV, below_setRow HBa.out (Nat.le_refl _) _⟩
            · rw [show buildA (⟨(o.toNat : Int), [x0, x1, x2, x3, x4, x5], [y0, y1, y2, y3], [u0, u1, u2, u3, u4, u5], [v0, v1, v2, v3]⟩ : Ar) = ([], 1) from by unfold buildA; rw [if_neg hk]] at hcl
              have HCL := Lib.hid hcl
              have HRR := Lib.hid (HR.out.symm.trans (if_neg fun h => hk h.2))
              clear hcl hk
              go_wp2_with (refine wpList_load_row rfl 44 _ rfl gg rfl _ #[.int .i64 (o.toNat : Int), .int .u8 (x0.toNat : Int), .int .u8 (x1.toNat : Int), .int .u8 (x2.toNat : Int), .int .u8 (x3.toNat : Int), .int .u8 (x4.toNat : Int), .int .u8 (x5.toNat : Int), .int .u8 (y0.toNat : Int), .int .u8 (y1.toNat : Int), .int .u8 (y2.toNat : Int), .int .u8 (y3.toNat : Int), .int .u8 (u0.toNat : Int), .int .u8 (u1.toNat : Int), .int .u8 (u2.toNat : Int), .int .u8 (u3.toNat : Int), .int .u8 (u4.toNat : Int), .int .u8 (u5.toNat : Int), .int .u8 (v0.toNat : Int), .int .u8 (v1.toNat : Int), .int .u8 (v2.toNat : Int), .int .u8 (v3.toNat : Int)] _ _ HAv.out Try.underlying44 rfl (by kernel_rfl) ?_)
              refine HCL.out.mono ?_
              rintro e va ⟨rfl, hba⟩
              have HBa := Lib.hid (HBv.out.trans (hba.mono HBv.out.size))
              have HGa := Lib.hid ((hba.block _ (row_lt HGv.out)).trans HGv.out)
              clear hba HBv HGv HAv HCL
              go_wp2_with (refine wpList_store_row rfl 44 _ _ rfl w.heap.size #[.int .i64 0, .int .u8 0, .int .u8 0, .int .u8 0, .int .u8 0, .int .u8 0, .int .u8 0, .int .u8 0, .int .u8 0, .int .u8 0, .int .u8 0, .int .u8 0, .int .u8 0, .int .u8 0, .int .u8 0, .int .u8 0, .int .u8 0, .int .u8 0, .int .u8 0, .int .u8 0, .int .u8 0] rfl rfl _ _ HGa.out (by kernel_rfl) rfl (by kernel_rfl) ?_)
              (try simp only [Exit.inBlock, Exit.then])
              refine ret_row (g := w.heap.size) (cs := #[.int .i64 0, .int .u8 0, .int .u8 0, .int .u8 0, .int .u8 0, .int .u8 0, .int .u8 0, .int .u8 0, .int .u8 0, .int .u8 0, .int .u8 0, .int .u8 0, .int .u8 0, .int .u8 0, .int .u8 0, .int .u8 0, .int .u8 0, .int .u8 0, .int .u8 0, .int .u8 0, .int .u8 0]) rfl rfl (load_ar (setRow_heap va _ _ _ _ _ HGa.out) rfl) rfl ?_
              rw [HRR.out]
              exact ⟨_, rfl, zero_arV, below_setRow HBa.out (Nat.le_refl _) _⟩
          exact AllReadyH.nil
        refine AllReadyH.cons (o := ?_) (by simp only [List.getElem?_toArray, List.getElem?_cons_zero, List.getElem?_cons_succ]; rfl) (fun K hK => ?_) ?_
        · go_simp
          have hrow := heap_alloc_new (ww3) (.cells #[.int .i64 0, .int .u8 0, .int .u8 0, .int .u8 0, .int .u8 0, .int .u8 0, .int .u8 0, .int .u8 0, .int .u8 0, .int .u8 0, .int .u8 0, .int .u8 0, .int .u8 0, .int .u8 0, .int .u8 0, .int .u8 0, .int .u8 0, .int .u8 0, .int .u8 0, .int .u8 0, .int .u8 0] 44)
          have hlow := hHeld.size
          refine hK.out _ _ (hHeld.alloc hHeld.size _) (fun hNew => ?_)
          clear hK K hHeld
          have hHeld := hNew
          clear hNew
          (try simp only [Act.put, List.setIfInBounds_toArray, List.set_cons_zero, List.set_cons_succ])
          generalize hgg : (ww3).heap.size = gg at hrow hlow ⊢
          generalize hv4 : (ww3).alloc (.cells #[.int .i64 0, .int .u8 0, .int .u8 0, .int .u8 0, .int .u8 0, .int .u8 0, .int .u8 0, .int .u8 0, .int .u8 0, .int .u8 0, .int .u8 0, .int .u8 0, .int .u8 0, .int .u8 0, .int .u8 0, .int .u8 0, .int .u8 0, .int .u8 0, .int .u8 0, .int .u8 0, .int .u8 0] 44) = ww4 at hrow hHeld ⊢
          clear hgg hv4
          refine wpAnyH_ready (rs := [14]) (by decide +kernel) (by simp) ?_
          refine AllReadyH.cons (o := ?_) (by simp only [List.getElem?_toArray, List.getElem?_cons_zero, List.getElem?_cons_succ]; rfl) (fun K hK => ?_) ?_
          · go_simp
            refine (ashost_lit _ _ _ _ _).mono ?_
            rintro e ww5 ⟨rfl, hb5⟩
            (try go_wp2_with fail)
            have hrow := (hb5.block _ (row_lt hrow)).trans hrow
            refine hK.out _ _ (hHeld.trans (hb5.mono hHeld.size)) (fun hNew => ?_)
            clear hK K hHeld
            have hHeld := hNew
            clear hNew
            (try simp only [Act.put, List.setIfInBounds_toArray, List.set_cons_zero, List.set_cons_succ])
            (refine wpAnyH_take (i := 15) (oi := ?_) (v := ?_) (by simp only [List.getElem?_toArray, List.getElem?_cons_zero, List.getElem?_cons_succ]; rfl) (by kernel_rfl) (by decide +kernel) (by decide +kernel) (by exact fun _ _ _ h => h) (Or.inl ⟨by rfl, ?_⟩) (by assumption) ?_; rotate_left; (focus (intro w hSw; go_simp; (try with_reducible rfl); done)); (try simp only [Act.put, List.setIfInBounds_toArray, List.set_cons_zero, List.set_cons_succ]))
            refine wpAnyH_ready (rs := [17]) (by decide +kernel) (by simp) ?_
            refine AllReadyH.cons (o := ?_) (by simp only [List.getElem?_toArray, List.getElem?_cons_zero, List.getElem?_cons_succ]; rfl) (fun K hK => ?_) AllReadyH.nil
            rw [if_pos (by rfl)]
            refine wp_store_row _ _ _ rfl gg #[.int .i64 (o.toNat : Int), .int .u8 (x0.toNat : Int), .int .u8 (x1.toNat : Int), .int .u8 (x2.toNat : Int), .int .u8 (x3.toNat : Int), .int .u8 (x4.toNat : Int), .int .u8 (x5.toNat : Int), .int .u8 (y0.toNat : Int), .int .u8 (y1.toNat : Int), .int .u8 (y2.toNat : Int), .int .u8 (y3.toNat : Int), .int .u8 (u0.toNat : Int), .int .u8 (u1.toNat : Int), .int .u8 (u2.toNat : Int), .int .u8 (u3.toNat : Int), .int .u8 (u4.toNat : Int), .int .u8 (u5.toNat : Int), .int .u8 (v0.toNat : Int), .int .u8 (v1.toNat : Int), .int .u8 (v2.toNat : Int), .int .u8 (v3.toNat : Int)] rfl rfl _ _ hrow (by kernel_rfl) rfl (by kernel_rfl) ?_
            refine hK.out _ _ (below_setRow hHeld hlow _) (fun _ => ?_)
            (try simp only [Act.put])
            refine wpAnyH_done (by decide +kernel) ?_ _
            clear hK K
            have HBv : Hid (Below w.heap.size w (ww5.setRow gg #[.int .i64 (o.toNat : Int), .int .u8 (x0.toNat : Int), .int .u8 (x1.toNat : Int), .int .u8 (x2.toNat : Int), .int .u8 (x3.toNat : Int), .int .u8 (x4.toNat : Int), .int .u8 (x5.toNat : Int), .int .u8 (y0.toNat : Int), .int .u8 (y1.toNat : Int), .int .u8 (y2.toNat : Int), .int .u8 (y3.toNat : Int), .int .u8 (u0.toNat : Int), .int .u8 (u1.toNat : Int), .int .u8 (u2.toNat : Int), .int .u8 (u3.toNat : Int), .int .u8 (u4.toNat : Int), .int .u8 (u5.toNat : Int), .int .u8 (v0.toNat : Int), .int .u8 (v1.toNat : Int), .int .u8 (v2.toNat : Int), .int .u8 (v3.toNat : Int)])) := below_setRow (HB0.out.trans (hHeld.mono HB0.out.size)) (Nat.le_of_lt (Nat.lt_of_lt_of_le (row_lt HG0.out) hlow)) _
            have HGv : Hid ((ww5.setRow gg #[.int .i64 (o.toNat : Int), .int .u8 (x0.toNat : Int), .int .u8 (x1.toNat : Int), .int .u8 (x2.toNat : Int), .int .u8 (x3.toNat : Int), .int .u8 (x4.toNat : Int), .int .u8 (x5.toNat : Int), .int .u8 (y0.toNat : Int), .int .u8 (y1.toNat : Int), .int .u8 (y2.toNat : Int), .int .u8 (y3.toNat : Int), .int .u8 (u0.toNat : Int), .int .u8 (u1.toNat : Int), .int .u8 (u2.toNat : Int), .int .u8 (u3.toNat : Int), .int .u8 (u4.toNat : Int), .int .u8 (u5.toNat : Int), .int .u8 (v0.toNat : Int), .int .u8 (v1.toNat : Int), .int .u8 (v2.toNat : Int), .int .u8 (v3.toNat : Int)]).heap[w.heap.size]? = some (.cells #[.int .i64 0, .int .u8 0, .int .u8 0, .int .u8 0, .int .u8 0, .int .u8 0, .int .u8 0, .int .u8 0, .int .u8 0, .int .u8 0, .int .u8 0, .int .u8 0, .int .u8 0, .int .u8 0, .int .u8 0, .int .u8 0, .int .u8 0, .int .u8 0, .int .u8 0, .int .u8 0, .int .u8 0] 44 (0, 0))) := (setRow_other ww5 gg w.heap.size _ (Nat.ne_of_lt (Nat.lt_of_lt_of_le (row_lt HG0.out) hlow))).trans ((hHeld.block _ (row_lt HG0.out)).trans HG0.out)
            have HAv : Hid ((ww5.setRow gg #[.int .i64 (o.toNat : Int), .int .u8 (x0.toNat : Int), .int .u8 (x1.toNat : Int), .int .u8 (x2.toNat : Int), .int .u8 (x3.toNat : Int), .int .u8 (x4.toNat : Int), .int .u8 (x5.toNat : Int), .int .u8 (y0.toNat : Int), .int .u8 (y1.toNat : Int), .int .u8 (y2.toNat : Int), .int .u8 (y3.toNat : Int), .int .u8 (u0.toNat : Int), .int .u8 (u1.toNat : Int), .int .u8 (u2.toNat : Int), .int .u8 (u3.toNat : Int), .int .u8 (u4.toNat : Int), .int .u8 (u5.toNat : Int), .int .u8 (v0.toNat : Int), .int .u8 (v1.toNat : Int), .int .u8 (v2.toNat : Int), .int .u8 (v3.toNat : Int)]).heap[gg]? = some (.cells #[.int .i64 (o.toNat : Int), .int .u8 (x0.toNat : Int), .int .u8 (x1.toNat : Int), .int .u8 (x2.toNat : Int), .int .u8 (x3.toNat : Int), .int .u8 (x4.toNat : Int), .int .u8 (x5.toNat : Int), .int .u8 (y0.toNat : Int), .int .u8 (y1.toNat : Int), .int .u8 (y2.toNat : Int), .int .u8 (y3.toNat : Int), .int .u8 (u0.toNat : Int), .int .u8 (u1.toNat : Int), .int .u8 (u2.toNat : Int), .int .u8 (u3.toNat : Int), .int .u8 (u4.toNat : Int), .int .u8 (u5.toNat : Int), .int .u8 (v0.toNat : Int), .int .u8 (v1.toNat : Int), .int .u8 (v2.toNat : Int), .int .u8 (v3.toNat : Int)] 44 (0, 0))) := setRow_heap _ _ _ _ _ _ hrow
            have HLv : Hid (w.heap.size < gg) := Nat.lt_of_lt_of_le (row_lt HG0.out) hlow
            clear hHeld hrow hlow
            generalize ww5.setRow gg #[.int .i64 (o.toNat : Int), .int .u8 (x0.toNat : Int), .int .u8 (x1.toNat : Int), .int .u8 (x2.toNat : Int), .int .u8 (x3.toNat : Int), .int .u8 (x4.toNat : Int), .int .u8 (x5.toNat : Int), .int .u8 (y0.toNat : Int), .int .u8 (y1.toNat : Int), .int .u8 (y2.toNat : Int), .int .u8 (y3.toNat : Int), .int .u8 (u0.toNat : Int), .int .u8 (u1.toNat : Int), .int .u8 (u2.toNat : Int), .int .u8 (u3.toNat : Int), .int .u8 (u4.toNat : Int), .int .u8 (u5.toNat : Int), .int .u8 (v0.toNat : Int), .int .u8 (v1.toNat : Int), .int .u8 (v2.toNat : Int), .int .u8 (v3.toNat : Int)] = v9 at HBv HGv HAv ⊢
            have hcl := refbuildarp_any #[.int .i64 (o.toNat : Int), .int .u8 (x0.toNat : Int), .int .u8 (x1.toNat : Int), .int .u8 (x2.toNat : Int), .int .u8 (x3.toNat : Int), .int .u8 (x4.toNat : Int), .int .u8 (x5.toNat : Int), .int .u8 (y0.toNat : Int), .int .u8 (y1.toNat : Int), .int .u8 (y2.toNat : Int), .int .u8 (y3.toNat : Int), .int .u8 (u0.toNat : Int), .int .u8 (u1.toNat : Int), .int .u8 (u2.toNat : Int), .int .u8 (u3.toNat : Int), .int .u8 (u4.toNat : Int), .int .u8 (u5.toNat : Int), .int .u8 (v0.toNat : Int), .int .u8 (v1.toNat : Int), .int .u8 (v2.toNat : Int), .int .u8 (v3.toNat : Int)] (⟨(o.toNat : Int), [x0, x1, x2, x3, x4, x5], [y0, y1, y2, y3], [u0, u1, u2, u3, u4, u5], [v0, v1, v2, v3]⟩ : Ar) v9 ⟨rfl, rfl, rfl, rfl, rfl⟩
            by_cases hk : knownB (o.toNat : Int) = true
            · rw [show buildA (⟨(o.toNat : Int), [x0, x1, x2, x3, x4, x5], [y0, y1, y2, y3], [u0, u1, u2, u3, u4, u5], [v0, v1, v2, v3]⟩ : Ar) = ((⟨(o.toNat : Int), [x0, x1, x2, x3, x4, x5], [y0, y1, y2, y3], [u0, u1, u2, u3, u4, u5], [v0, v1, v2, v3]⟩ : Ar).bytes, 0) from by unfold buildA; rw [if_pos hk]] at hcl
              have HCL := Lib.hid hcl
              clear hcl
              by_cases hT : TT = MM
              · have HRR := Lib.hid (HR.out.symm.trans (if_pos ⟨HEQ.out hT, hk⟩))
                have s6 := HS5.out.trans (congrArg (fun x : List UInt8 => (⟨x.toArray⟩ : ByteArray)) hT.symm)
                have HTT2 := Lib.hid HTT.out
                clear hk hT
                go_wp2_with (refine wpList_load_row rfl 44 _ rfl gg rfl _ #[.int .i64 (o.toNat : Int), .int .u8 (x0.toNat : Int), .int .u8 (x1.toNat : Int), .int .u8 (x2.toNat : Int), .int .u8 (x3.toNat : Int), .int .u8 (x4.toNat : Int), .int .u8 (x5.toNat : Int), .int .u8 (y0.toNat : Int), .int .u8 (y1.toNat : Int), .int .u8 (y2.toNat : Int), .int .u8 (y3.toNat : Int), .int .u8 (u0.toNat : Int), .int .u8 (u1.toNat : Int), .int .u8 (u2.toNat : Int), .int .u8 (u3.toNat : Int), .int .u8 (u4.toNat : Int), .int .u8 (u5.toNat : Int), .int .u8 (v0.toNat : Int), .int .u8 (v1.toNat : Int), .int .u8 (v2.toNat : Int), .int .u8 (v3.toNat : Int)] _ _ HAv.out Try.underlying44 rfl (by kernel_rfl) ?_)
                refine HCL.out.mono ?_
                rintro e va ⟨rfl, hba⟩
                rw [HTT.out]
                have HBa := Lib.hid (HBv.out.trans (hba.mono HBv.out.size))
                have HGa := Lib.hid ((hba.block _ (row_lt HGv.out)).trans HGv.out)
                have HAa := Lib.hid ((hba.block _ (row_lt HAv.out)).trans HAv.out)
                clear hba HBv HGv HAv HCL
                go_wp2_with (first | refine wpList_load_row rfl 44 _ rfl gg rfl _ #[.int .i64 (o.toNat : Int), .int .u8 (x0.toNat : Int), .int .u8 (x1.toNat : Int), .int .u8 (x2.toNat : Int), .int .u8 (x3.toNat : Int), .int .u8 (x4.toNat : Int), .int .u8 (x5.toNat : Int), .int .u8 (y0.toNat : Int), .int .u8 (y1.toNat : Int), .int .u8 (y2.toNat : Int), .int .u8 (y3.toNat : Int), .int .u8 (u0.toNat : Int), .int .u8 (u1.toNat : Int), .int .u8 (u2.toNat : Int), .int .u8 (u3.toNat : Int), .int .u8 (u4.toNat : Int), .int .u8 (u5.toNat : Int), .int .u8 (v0.toNat : Int), .int .u8 (v1.toNat : Int), .int .u8 (v2.toNat : Int), .int .u8 (v3.toNat : Int)] _ _ HAa.out Try.underlying44 rfl (by kernel_rfl) ?_ | refine wpList_store_row rfl 44 _ _ rfl w.heap.size #[.int .i64 (o.toNat : Int), .int .u8 (x0.toNat : Int), .int .u8 (x1.toNat : Int), .int .u8 (x2.toNat : Int), .int .u8 (x3.toNat : Int), .int .u8 (x4.toNat : Int), .int .u8 (x5.toNat : Int), .int .u8 (y0.toNat : Int), .int .u8 (y1.toNat : Int), .int .u8 (y2.toNat : Int), .int .u8 (y3.toNat : Int), .int .u8 (u0.toNat : Int), .int .u8 (u1.toNat : Int), .int .u8 (u2.toNat : Int), .int .u8 (u3.toNat : Int), .int .u8 (u4.toNat : Int), .int .u8 (u5.toNat : Int), .int .u8 (v0.toNat : Int), .int .u8 (v1.toNat : Int), .int .u8 (v2.toNat : Int), .int .u8 (v3.toNat : Int)] rfl rfl _ _ HGa.out (by kernel_rfl) rfl (by kernel_rfl) ?_)
                (try simp only [Exit.inBlock, Exit.then])
                refine ret_row (g := w.heap.size) (cs := #[.int .i64 (o.toNat : Int), .int .u8 (x0.toNat : Int), .int .u8 (x1.toNat : Int), .int .u8 (x2.toNat : Int), .int .u8 (x3.toNat : Int), .int .u8 (x4.toNat : Int), .int .u8 (x5.toNat : Int), .int .u8 (y0.toNat : Int), .int .u8 (y1.toNat : Int), .int .u8 (y2.toNat : Int), .int .u8 (y3.toNat : Int), .int .u8 (u0.toNat : Int), .int .u8 (u1.toNat : Int), .int .u8 (u2.toNat : Int), .int .u8 (u3.toNat : Int), .int .u8 (u4.toNat : Int), .int .u8 (u5.toNat : Int), .int .u8 (v0.toNat : Int), .int .u8 (v1.toNat : Int), .int .u8 (v2.toNat : Int), .int .u8 (v3.toNat : Int)]) rfl rfl (load_ar (setRow_heap va _ _ _ _ _ HGa.out) rfl) rfl ?_
                rw [HRR.out]
                exact ⟨_, rfl, ⟨rfl, rfl, rfl, rfl, rfl⟩, below_setRow HBa.out (Nat.le_refl _) _⟩
              · have HRR := Lib.hid (HR.out.symm.trans (if_neg fun h => hT (HNE.out h)))
                obtain ⟨z1, z2⟩ := texts_ne hT
                have s6 := HS5.out
                clear hk hT
                go_wp2_with (refine wpList_load_row rfl 44 _ rfl gg rfl _ #[.int .i64 (o.toNat : Int), .int .u8 (x0.toNat : Int), .int .u8 (x1.toNat : Int), .int .u8 (x2.toNat : Int), .int .u8 (x3.toNat : Int), .int .u8 (x4.toNat : Int), .int .u8 (x5.toNat : Int), .int .u8 (y0.toNat : Int), .int .u8 (y1.toNat : Int), .int .u8 (y2.toNat : Int), .int .u8 (y3.toNat : Int), .int .u8 (u0.toNat : Int), .int .u8 (u1.toNat : Int), .int .u8 (u2.toNat : Int), .int .u8 (u3.toNat : Int), .int .u8 (u4.toNat : Int), .int .u8 (u5.toNat : Int), .int .u8 (v0.toNat : Int), .int .u8 (v1.toNat : Int), .int .u8 (v2.toNat : Int), .int .u8 (v3.toNat : Int)] _ _ HAv.out Try.underlying44 rfl (by kernel_rfl) ?_)
                refine HCL.out.mono ?_
                rintro e va ⟨rfl, hba⟩
                rw [HTT.out]
                have HBa := Lib.hid (HBv.out.trans (hba.mono HBv.out.size))
                have HGa := Lib.hid ((hba.block _ (row_lt HGv.out)).trans HGv.out)
                clear hba HBv HGv HAv HCL
                go_wp2_with (refine wpList_store_row rfl 44 _ _ rfl w.heap.size #[.int .i64 0, .int .u8 0, .int .u8 0, .int .u8 0, .int .u8 0, .int .u8 0, .int .u8 0, .int .u8 0, .int .u8 0, .int .u8 0, .int .u8 0, .int .u8 0, .int .u8 0, .int .u8 0, .int .u8 0, .int .u8 0, .int .u8 0, .int .u8 0, .int .u8 0, .int .u8 0, .int .u8 0] rfl rfl _ _ HGa.out (by kernel_rfl) rfl (by kernel_rfl) ?_)
                (try simp only [Exit.inBlock, Exit.then])
                refine ret_row (g := w.heap.size) (cs := #[.int .i64 0, .int .u8 0, .int .u8 0, .int .u8 0, .int .u8 0, .int .u8 0, .int .u8 0, .int .u8 0, .int .u8 0, .int .u8 0, .int .u8 0, .int .u8 0, .int .u8 0, .int .u8 0, .int .u8 0, .int .u8 0, .int .u8 0, .int .u8 0, .int .u8 0, .int .u8 0, .int .u8 0]) rfl rfl (load_ar (setRow_heap va _ _ _ _ _ HGa.out) rfl) rfl ?_
                rw [HRR.out]
                exact ⟨_, rfl, zero_arV, below_setRow HBa.out (Nat.le_refl _) _⟩
            · rw [show buildA (⟨(o.toNat : Int), [x0, x1, x2, x3, x4, x5], [y0, y1, y2, y3], [u0, u1, u2, u3, u4, u5], [v0, v1, v2, v3]⟩ : Ar) = ([], 1) from by unfold buildA; rw [if_neg hk]] at hcl
              have HCL := Lib.hid hcl
              have HRR := Lib.hid (HR.out.symm.trans (if_neg fun h => hk h.2))
              clear hcl hk
              go_wp2_with (refine wpList_load_row rfl 44 _ rfl gg rfl _ #[.int .i64 (o.toNat : Int), .int .u8 (x0.toNat : Int), .int .u8 (x1.toNat : Int), .int .u8 (x2.toNat : Int), .int .u8 (x3.toNat : Int), .int .u8 (x4.toNat : Int), .int .u8 (x5.toNat : Int), .int .u8 (y0.toNat : Int), .int .u8 (y1.toNat : Int), .int .u8 (y2.toNat : Int), .int .u8 (y3.toNat : Int), .int .u8 (u0.toNat : Int), .int .u8 (u1.toNat : Int), .int .u8 (u2.toNat : Int), .int .u8 (u3.toNat : Int), .int .u8 (u4.toNat : Int), .int .u8 (u5.toNat : Int), .int .u8 (v0.toNat : Int), .int .u8 (v1.toNat : Int), .int .u8 (v2.toNat : Int), .int .u8 (v3.toNat : Int)] _ _ HAv.out Try.underlying44 rfl (by kernel_rfl) ?_)
              refine HCL.out.mono ?_
              rintro e va ⟨rfl, hba⟩
              have HBa := Lib.hid (HBv.out.trans (hba.mono HBv.out.size))
              have HGa := Lib.hid ((hba.block _ (row_lt HGv.out)).trans HGv.out)
              clear hba HBv HGv HAv HCL
              go_wp2_with (refine wpList_store_row rfl 44 _ _ rfl w.heap.size #[.int .i64 0, .int .u8 0, .int .u8 0, .int .u8 0, .int .u8 0, .int .u8 0, .int .u8 0, .int .u8 0, .int .u8 0, .int .u8 0, .int .u8 0, .int .u8 0, .int .u8 0, .int .u8 0, .int .u8 0, .int .u8 0, .int .u8 0, .int .u8 0, .int .u8 0, .int .u8 0, .int .u8 0] rfl rfl _ _ HGa.out (by kernel_rfl) rfl (by kernel_rfl) ?_)
              (try simp only [Exit.inBlock, Exit.then])
              refine ret_row (g := w.heap.size) (cs := #[.int .i64 0, .int .u8 0, .int .u8 0, .int .u8 0, .int .u8 0, .int .u8 0, .int .u8 0, .int .u8 0, .int .u8 0, .int .u8 0, .int .u8 0, .int .u8 0, .int .u8 0, .int .u8 0, .int .u8 0, .int .u8 0, .int .u8 0, .int .u8 0, .int .u8 0, .int .u8 0, .int .u8 0]) rfl rfl (load_ar (setRow_heap va _ _ _ _ _ HGa.out) rfl) rfl ?_
              rw [HRR.out]
              exact ⟨_, rfl, zero_arV, below_setRow HBa.out (Nat.le_refl _) _⟩
          exact AllReadyH.nil
        exact AllReadyH.nil
      refine AllReadyH.cons (o := ?_) (by simp only [List.getElem?_toArray, List.getElem?_cons_zero, List.getElem?_cons_succ]; rfl) (fun K hK => ?_) ?_
      · go_simp
        have hrow := heap_alloc_new (ww2) (.cells #[.int .i64 0, .int .u8 0, .int .u8 0, .int .u8 0, .int .u8 0, .int .u8 0, .int .u8 0, .int .u8 0, .int .u8 0, .int .u8 0, .int .u8 0, .int .u8 0, .int .u8 0, .int .u8 0, .int .u8 0, .int .u8 0, .int .u8 0, .int .u8 0, .int .u8 0, .int .u8 0, .int .u8 0] 44)
        have hlow := hHeld.size
        refine hK.out _ _ (hHeld.alloc hHeld.size _) (fun hNew => ?_)
        clear hK K hHeld
        have hHeld := hNew
        clear hNew
        (try simp only [Act.put, List.setIfInBounds_toArray, List.set_cons_zero, List.set_cons_succ])
        generalize hgg : (ww2).heap.size = gg at hrow hlow ⊢
        generalize hv3 : (ww2).alloc (.cells #[.int .i64 0, .int .u8 0, .int .u8 0, .int .u8 0, .int .u8 0, .int .u8 0, .int .u8 0, .int .u8 0, .int .u8 0, .int .u8 0, .int .u8 0, .int .u8 0, .int .u8 0, .int .u8 0, .int .u8 0, .int .u8 0, .int .u8 0, .int .u8 0, .int .u8 0, .int .u8 0, .int .u8 0] 44) = ww3 at hrow hHeld ⊢
        clear hgg hv3
        refine wpAnyH_ready (rs := [11]) (by decide +kernel) (by simp) ?_
        refine AllReadyH.cons (o := ?_) (by simp only [List.getElem?_toArray, List.getElem?_cons_zero, List.getElem?_cons_succ]; rfl) (fun K hK => ?_) ?_
        · go_simp
          refine (ascard_lit _ _ _ _ _ _ _).mono ?_
          rintro e ww4 ⟨rfl, hb4⟩
          (try go_wp2_with fail)
          have hrow := (hb4.block _ (row_lt hrow)).trans hrow
          refine hK.out _ _ (hHeld.trans (hb4.mono hHeld.size)) (fun hNew => ?_)
          clear hK K hHeld
          have hHeld := hNew
          clear hNew
          (try simp only [Act.put, List.setIfInBounds_toArray, List.set_cons_zero, List.set_cons_succ])
          refine wpAnyH_ready (rs := [14]) (by decide +kernel) (by simp) ?_
          refine AllReadyH.cons (o := ?_) (by simp only [List.getElem?_toArray, List.getElem?_cons_zero, List.getElem?_cons_succ]; rfl) (fun K hK => ?_) ?_
          · go_simp
            refine (ashost_lit _ _ _ _ _).mono ?_
            rintro e ww5 ⟨rfl, hb5⟩
            (try go_wp2_with fail)
            have hrow := (hb5.block _ (row_lt hrow)).trans hrow
            refine hK.out _ _ (hHeld.trans (hb5.mono hHeld.size)) (fun hNew => ?_)
            clear hK K hHeld
            have hHeld := hNew
            clear hNew
            (try simp only [Act.put, List.setIfInBounds_toArray, List.set_cons_zero, List.set_cons_succ])
            (refine wpAnyH_take (i := 15) (oi := ?_) (v := ?_) (by simp only [List.getElem?_toArray, List.getElem?_cons_zero, List.getElem?_cons_succ]; rfl) (by kernel_rfl) (by decide +kernel) (by decide +kernel) (by exact fun _ _ _ h => h) (Or.inl ⟨by rfl, ?_⟩) (by assumption) ?_; rotate_left; (focus (intro w hSw; go_simp; (try with_reducible rfl); done)); (try simp only [Act.put, List.setIfInBounds_toArray, List.set_cons_zero, List.set_cons_succ]))
            refine wpAnyH_ready (rs := [17]) (by decide +kernel) (by simp) ?_
            refine AllReadyH.cons (o := ?_) (by simp only [List.getElem?_toArray, List.getElem?_cons_zero, List.getElem?_cons_succ]; rfl) (fun K hK => ?_) AllReadyH.nil
            rw [if_pos (by rfl)]
            refine wp_store_row _ _ _ rfl gg #[.int .i64 (o.toNat : Int), .int .u8 (x0.toNat : Int), .int .u8 (x1.toNat : Int), .int .u8 (x2.toNat : Int), .int .u8 (x3.toNat : Int), .int .u8 (x4.toNat : Int), .int .u8 (x5.toNat : Int), .int .u8 (y0.toNat : Int), .int .u8 (y1.toNat : Int), .int .u8 (y2.toNat : Int), .int .u8 (y3.toNat : Int), .int .u8 (u0.toNat : Int), .int .u8 (u1.toNat : Int), .int .u8 (u2.toNat : Int), .int .u8 (u3.toNat : Int), .int .u8 (u4.toNat : Int), .int .u8 (u5.toNat : Int), .int .u8 (v0.toNat : Int), .int .u8 (v1.toNat : Int), .int .u8 (v2.toNat : Int), .int .u8 (v3.toNat : Int)] rfl rfl _ _ hrow (by kernel_rfl) rfl (by kernel_rfl) ?_
            refine hK.out _ _ (below_setRow hHeld hlow _) (fun _ => ?_)
            (try simp only [Act.put])
            refine wpAnyH_done (by decide +kernel) ?_ _
            clear hK K
            have HBv : Hid (Below w.heap.size w (ww5.setRow gg #[.int .i64 (o.toNat : Int), .int .u8 (x0.toNat : Int), .int .u8 (x1.toNat : Int), .int .u8 (x2.toNat : Int), .int .u8 (x3.toNat : Int), .int .u8 (x4.toNat : Int), .int .u8 (x5.toNat : Int), .int .u8 (y0.toNat : Int), .int .u8 (y1.toNat : Int), .int .u8 (y2.toNat : Int), .int .u8 (y3.toNat : Int), .int .u8 (u0.toNat : Int), .int .u8 (u1.toNat : Int), .int .u8 (u2.toNat : Int), .int .u8 (u3.toNat : Int), .int .u8 (u4.toNat : Int), .int .u8 (u5.toNat : Int), .int .u8 (v0.toNat : Int), .int .u8 (v1.toNat : Int), .int .u8 (v2.toNat : Int), .int .u8 (v3.toNat : Int)])) := below_setRow (HB0.out.trans (hHeld.mono HB0.out.size)) (Nat.le_of_lt (Nat.lt_of_lt_of_le (row_lt HG0.out) hlow)) _
            have HGv : Hid ((ww5.setRow gg #[.int .i64 (o.toNat : Int), .int .u8 (x0.toNat : Int), .int .u8 (x1.toNat : Int), .int .u8 (x2.toNat : Int), .int .u8 (x3.toNat : Int), .int .u8 (x4.toNat : Int), .int .u8 (x5.toNat : Int), .int .u8 (y0.toNat : Int), .int .u8 (y1.toNat : Int), .int .u8 (y2.toNat : Int), .int .u8 (y3.toNat : Int), .int .u8 (u0.toNat : Int), .int .u8 (u1.toNat : Int), .int .u8 (u2.toNat : Int), .int .u8 (u3.toNat : Int), .int .u8 (u4.toNat : Int), .int .u8 (u5.toNat : Int), .int .u8 (v0.toNat : Int), .int .u8 (v1.toNat : Int), .int .u8 (v2.toNat : Int), .int .u8 (v3.toNat : Int)]).heap[w.heap.size]? = some (.cells #[.int .i64 0, .int .u8 0, .int .u8 0, .int .u8 0, .int .u8 0, .int .u8 0, .int .u8 0, .int .u8 0, .int .u8 0, .int .u8 0, .int .u8 0, .int .u8 0, .int .u8 0, .int .u8 0, .int .u8 0, .int .u8 0, .int .u8 0, .int .u8 0, .int .u8 0, .int .u8 0, .int .u8 0] 44 (0, 0))) := (setRow_other ww5 gg w.heap.size _ (Nat.ne_of_lt (Nat.lt_of_lt_of_le (row_lt HG0.out) hlow))).trans ((hHeld.block _ (row_lt HG0.out)).trans HG0.out)
            have HAv : Hid ((ww5.setRow gg #[.int .i64 (o.toNat : Int), .int .u8 (x0.toNat : Int), .int .u8 (x1.toNat : Int), .int .u8 (x2.toNat : Int), .int .u8 (x3.toNat : Int), .int .u8 (x4.toNat : Int), .int .u8 (x5.toNat : Int), .int .u8 (y0.toNat : Int), .int .u8 (y1.toNat : Int), .int .u8 (y2.toNat : Int), .int .u8 (y3.toNat : Int), .int .u8 (u0.toNat : Int), .int .u8 (u1.toNat : Int), .int .u8 (u2.toNat : Int), .int .u8 (u3.toNat : Int), .int .u8 (u4.toNat : Int), .int .u8 (u5.toNat : Int), .int .u8 (v0.toNat : Int), .int .u8 (v1.toNat : Int), .int .u8 (v2.toNat : Int), .int .u8 (v3.toNat : Int)]).heap[gg]? = some (.cells #[.int .i64 (o.toNat : Int), .int .u8 (x0.toNat : Int), .int .u8 (x1.toNat : Int), .int .u8 (x2.toNat : Int), .int .u8 (x3.toNat : Int), .int .u8 (x4.toNat : Int), .int .u8 (x5.toNat : Int), .int .u8 (y0.toNat : Int), .int .u8 (y1.toNat : Int), .int .u8 (y2.toNat : Int), .int .u8 (y3.toNat : Int), .int .u8 (u0.toNat : Int), .int .u8 (u1.toNat : Int), .int .u8 (u2.toNat : Int), .int .u8 (u3.toNat : Int), .int .u8 (u4.toNat : Int), .int .u8 (u5.toNat : Int), .int .u8 (v0.toNat : Int), .int .u8 (v1.toNat : Int), .int .u8 (v2.toNat : Int), .int .u8 (v3.toNat : Int)] 44 (0, 0))) := setRow_heap _ _ _ _ _ _ hrow
            have HLv : Hid (w.heap.size < gg) := Nat.lt_of_lt_of_le (row_lt HG0.out) hlow
            clear hHeld hrow hlow
            generalize ww5.setRow gg #[.int .i64 (o.toNat : Int), .int .u8 (x0.toNat : Int), .int .u8 (x1.toNat : Int), .int .u8 (x2.toNat : Int), .int .u8 (x3.toNat : Int), .int .u8 (x4.toNat : Int), .int .u8 (x5.toNat : Int), .int .u8 (y0.toNat : Int), .int .u8 (y1.toNat : Int), .int .u8 (y2.toNat : Int), .int .u8 (y3.toNat : Int), .int .u8 (u0.toNat : Int), .int .u8 (u1.toNat : Int), .int .u8 (u2.toNat : Int), .int .u8 (u3.toNat : Int), .int .u8 (u4.toNat : Int), .int .u8 (u5.toNat : Int), .int .u8 (v0.toNat : Int), .int .u8 (v1.toNat : Int), .int .u8 (v2.toNat : Int), .int .u8 (v3.toNat : Int)] = v9 at HBv HGv HAv ⊢
            have hcl := refbuildarp_any #[.int .i64 (o.toNat : Int), .int .u8 (x0.toNat : Int), .int .u8 (x1.toNat : Int), .int .u8 (x2.toNat : Int), .int .u8 (x3.toNat : Int), .int .u8 (x4.toNat : Int), .int .u8 (x5.toNat : Int), .int .u8 (y0.toNat : Int), .int .u8 (y1.toNat : Int), .int .u8 (y2.toNat : Int), .int .u8 (y3.toNat : Int), .int .u8 (u0.toNat : Int), .int .u8 (u1.toNat : Int), .int .u8 (u2.toNat : Int), .int .u8 (u3.toNat : Int), .int .u8 (u4.toNat : Int), .int .u8 (u5.toNat : Int), .int .u8 (v0.toNat : Int), .int .u8 (v1.toNat : Int), .int .u8 (v2.toNat : Int), .int .u8 (v3.toNat : Int)] (⟨(o.toNat : Int), [x0, x1, x2, x3, x4, x5], [y0, y1, y2, y3], [u0, u1, u2, u3, u4, u5], [v0, v1, v2, v3]⟩ : Ar) v9 ⟨rfl, rfl, rfl, rfl, rfl⟩
            by_cases hk : knownB (o.toNat : Int) = true
            · rw [show buildA (⟨(o.toNat : Int), [x0, x1, x2, x3, x4, x5], [y0, y1, y2, y3], [u0, u1, u2, u3, u4, u5], [v0, v1, v2, v3]⟩ : Ar) = ((⟨(o.toNat : Int), [x0, x1, x2, x3, x4, x5], [y0, y1, y2, y3], [u0, u1, u2, u3, u4, u5], [v0, v1, v2, v3]⟩ : Ar).bytes, 0) from by unfold buildA; rw [if_pos hk]] at hcl
              have HCL := Lib.hid hcl
              clear hcl
              by_cases hT : TT = MM
              · have HRR := Lib.hid (HR.out.symm.trans (if_pos ⟨HEQ.out hT, hk⟩))
                have s6 := HS5.out.trans (congrArg (fun x : List UInt8 => (⟨x.toArray⟩ : ByteArray)) hT.symm)
                have HTT2 := Lib.hid HTT.out
                clear hk hT
                go_wp2_with (refine wpList_load_row rfl 44 _ rfl gg rfl _ #[.int .i64 (o.toNat : Int), .int .u8 (x0.toNat : Int), .int .u8 (x1.toNat : Int), .int .u8 (x2.toNat : Int), .int .u8 (x3.toNat : Int), .int .u8 (x4.toNat : Int), .int .u8 (x5.toNat : Int), .int .u8 (y0.toNat : Int), .int .u8 (y1.toNat : Int), .int .u8 (y2.toNat : Int), .int .u8 (y3.toNat : Int), .int .u8 (u0.toNat : Int), .int .u8 (u1.toNat : Int), .int .u8 (u2.toNat : Int), .int .u8 (u3.toNat : Int), .int .u8 (u4.toNat : Int), .int .u8 (u5.toNat : Int), .int .u8 (v0.toNat : Int), .int .u8 (v1.toNat : Int), .int .u8 (v2.toNat : Int), .int .u8 (v3.toNat : Int)] _ _ HAv.out Try.underlying44 rfl (by kernel_rfl) ?_)
                refine HCL.out.mono ?_
                rintro e va ⟨rfl, hba⟩
                rw [HTT.out]
                have HBa := Lib.hid (HBv.out.trans (hba.mono HBv.out.size))
                have HGa := Lib.hid ((hba.block _ (row_lt HGv.out)).trans HGv.out)
                have HAa := Lib.hid ((hba.block _ (row_lt HAv.out)).trans HAv.out)
                clear hba HBv HGv HAv HCL
                go_wp2_with (first | refine wpList_load_row rfl 44 _ rfl gg rfl _ #[.int .i64 (o.toNat : Int), .int .u8 (x0.toNat : Int), .int .u8 (x1.toNat : Int), .int .u8 (x2.toNat : Int), .int .u8 (x3.toNat : Int), .int .u8 (x4.toNat : Int), .int .u8 (x5.toNat : Int), .int .u8 (y0.toNat : Int), .int .u8 (y1.toNat : Int), .int .u8 (y2.toNat : Int), .int .u8 (y3.toNat : Int), .int .u8 (u0.toNat : Int), .int .u8 (u1.toNat : Int), .int .u8 (u2.toNat : Int), .int .u8 (u3.toNat : Int), .int .u8 (u4.toNat : Int), .int .u8 (u5.toNat : Int), .int .u8 (v0.toNat : Int), .int .u8 (v1.toNat : Int), .int .u8 (v2.toNat : Int), .int .u8 (v3.toNat : Int)] _ _ HAa.out Try.underlying44 rfl (by kernel_rfl) ?_ | refine wpList_store_row rfl 44 _ _ rfl w.heap.size #[.int .i64 (o.toNat : Int), .int .u8 (x0.toNat : Int), .int .u8 (x1.toNat : Int), .int .u8 (x2.toNat : Int), .int .u8 (x3.toNat : Int), .int .u8 (x4.toNat : Int), .int .u8 (x5.toNat : Int), .int .u8 (y0.toNat : Int), .int .u8 (y1.toNat : Int), .int .u8 (y2.toNat : Int), .int .u8 (y3.toNat : Int), .int .u8 (u0.toNat : Int), .int .u8 (u1.toNat : Int), .int .u8 (u2.toNat : Int), .int .u8 (u3.toNat : Int), .int .u8 (u4.toNat : Int), .int .u8 (u5.toNat : Int), .int .u8 (v0.toNat : Int), .int .u8 (v1.toNat : Int), .int .u8 (v2.toNat : Int), .int .u8 (v3.toNat : Int)] rfl rfl _ _ HGa.out (by kernel_rfl) rfl (by kernel_rfl) ?_)
                (try simp only [Exit.inBlock, Exit.then])
                refine ret_row (g := w.heap.size) (cs := #[.int .i64 (o.toNat : Int), .int .u8 (x0.toNat : Int), .int .u8 (x1.toNat : Int), .int .u8 (x2.toNat : Int), .int .u8 (x3.toNat : Int), .int .u8 (x4.toNat : Int), .int .u8 (x5.toNat : Int), .int .u8 (y0.toNat : Int), .int .u8 (y1.toNat : Int), .int .u8 (y2.toNat : Int), .int .u8 (y3.toNat : Int), .int .u8 (u0.toNat : Int), .int .u8 (u1.toNat : Int), .int .u8 (u2.toNat : Int), .int .u8 (u3.toNat : Int), .int .u8 (u4.toNat : Int), .int .u8 (u5.toNat : Int), .int .u8 (v0.toNat : Int), .int .u8 (v1.toNat : Int), .int .u8 (v2.toNat : Int), .int .u8 (v3.toNat : Int)]) rfl rfl (load_ar (setRow_heap va _ _ _ _ _ HGa.out) rfl) rfl ?_
                rw [HRR.out]
                exact ⟨_, rfl, ⟨rfl, rfl, rfl, rfl, rfl⟩, below_setRow HBa.out (Nat.le_refl _) _⟩
              · have HRR := Lib.hid (HR.out.symm.trans (if_neg fun h => hT (HNE.out h)))
                obtain ⟨z1, z2⟩ := texts_ne hT
                have s6 := HS5.out
                clear hk hT
                go_wp2_with (refine wpList_load_row rfl 44 _ rfl gg rfl _ #[.int .i64 (o.toNat : Int), .int .u8 (x0.toNat : Int), .int .u8 (x1.toNat : Int), .int .u8 (x2.toNat : Int), .int .u8 (x3.toNat : Int), .int .u8 (x4.toNat : Int), .int .u8 (x5.toNat : Int), .int .u8 (y0.toNat : Int), .int .u8 (y1.toNat : Int), .int .u8 (y2.toNat : Int), .int .u8 (y3.toNat : Int), .int .u8 (u0.toNat : Int), .int .u8 (u1.toNat : Int), .int .u8 (u2.toNat : Int), .int .u8 (u3.toNat : Int), .int .u8 (u4.toNat : Int), .int .u8 (u5.toNat : Int), .int .u8 (v0.toNat : Int), .int .u8 (v1.toNat : Int), .int .u8 (v2.toNat : Int), .int .u8 (v3.toNat : Int)] _ _ HAv.out Try.underlying44 rfl (by kernel_rfl) ?_)
                refine HCL.out.mono ?_
                rintro e va ⟨rfl, hba⟩
                rw [HTT.out]
                have HBa := Lib.hid (HBv.out.trans (hba.mono HBv.out.size))
                have HGa := Lib.hid ((hba.block _ (row_lt HGv.out)).trans HGv.out)
                clear hba HBv HGv HAv HCL
                go_wp2_with (refine wpList_store_row rfl 44 _ _ rfl w.heap.size #[.int .i64 0, .int .u8 0, .int .u8 0, .int .u8 0, .int .u8 0, .int .u8 0, .int .u8 0, .int .u8 0, .int .u8 0, .int .u8 0, .int .u8 0, .int .u8 0, .int .u8 0, .int .u8 0, .int .u8 0, .int .u8 0, .int .u8 0, .int .u8 0, .int .u8 0, .int .u8 0, .int .u8 0] rfl rfl _ _ HGa.out (by kernel_rfl) rfl (by kernel_rfl) ?_)
                (try simp only [Exit.inBlock, Exit.then])
                refine ret_row (g := w.heap.size) (cs := #[.int .i64 0, .int .u8 0, .int .u8 0, .int .u8 0, .int .u8 0, .int .u8 0, .int .u8 0, .int .u8 0, .int .u8 0, .int .u8 0, .int .u8 0, .int .u8 0, .int .u8 0, .int .u8 0, .int .u8 0, .int .u8 0, .int .u8 0, .int .u8 0, .int .u8 0, .int .u8 0, .int .u8 0]) rfl rfl (load_ar (setRow_heap va _ _ _ _ _ HGa.out) rfl) rfl ?_
                rw [HRR.out]
                exact ⟨_, rfl, zero_arV, below_setRow HBa.out (Nat.le_refl _) _⟩
            · rw [show buildA (⟨(o.toNat : Int), [x0, x1, x2, x3, x4, x5], [y0, y1, y2, y3], [u0, u1, u2, u3, u4, u5], [v0, v1, v2, v3]⟩ : Ar) = ([], 1) from by unfold buildA; rw [if_neg hk]] at hcl
              have HCL := Lib.hid hcl
              have HRR := Lib.hid (HR.out.symm.trans (if_neg fun h => hk h.2))
              clear hcl hk
              go_wp2_with (refine wpList_load_row rfl 44 _ rfl gg rfl _ #[.int .i64 (o.toNat : Int), .int .u8 (x0.toNat : Int), .int .u8 (x1.toNat : Int), .int .u8 (x2.toNat : Int), .int .u8 (x3.toNat : Int), .int .u8 (x4.toNat : Int), .int .u8 (x5.toNat : Int), .int .u8 (y0.toNat : Int), .int .u8 (y1.toNat : Int), .int .u8 (y2.toNat : Int), .int .u8 (y3.toNat : Int), .int .u8 (u0.toNat : Int), .int .u8 (u1.toNat : Int), .int .u8 (u2.toNat : Int), .int .u8 (u3.toNat : Int), .int .u8 (u4.toNat : Int), .int .u8 (u5.toNat : Int), .int .u8 (v0.toNat : Int), .int .u8 (v1.toNat : Int), .int .u8 (v2.toNat : Int), .int .u8 (v3.toNat : Int)] _ _ HAv.out Try.underlying44 rfl (by kernel_rfl) ?_)
              refine HCL.out.mono ?_
              rintro e va ⟨rfl, hba⟩
              have HBa := Lib.hid (HBv.out.trans (hba.mono HBv.out.size))
              have HGa := Lib.hid ((hba.block _ (row_lt HGv.out)).trans HGv.out)
              clear hba HBv HGv HAv HCL
              go_wp2_with (refine wpList_store_row rfl 44 _ _ rfl w.heap.size #[.int .i64 0, .int .u8 0, .int .u8 0, .int .u8 0, .int .u8 0, .int .u8 0, .int .u8 0, .int .u8 0, .int .u8 0, .int .u8 0, .int .u8 0, .int .u8 0, .int .u8 0, .int .u8 0, .int .u8 0, .int .u8 0, .int .u8 0, .int .u8 0, .int .u8 0, .int .u8 0, .int .u8 0] rfl rfl _ _ HGa.out (by kernel_rfl) rfl (by kernel_rfl) ?_)
              (try simp only [Exit.inBlock, Exit.then])
              refine ret_row (g := w.heap.size) (cs := #[.int .i64 0, .int .u8 0, .int .u8 0, .int .u8 0, .int .u8 0, .int .u8 0, .int .u8 0, .int .u8 0, .int .u8 0, .int .u8 0, .int .u8 0, .int .u8 0, .int .u8 0, .int .u8 0, .int .u8 0, .int .u8 0, .int .u8 0, .int .u8 0, .int .u8 0, .int .u8 0, .int .u8 0]) rfl rfl (load_ar (setRow_heap va _ _ _ _ _ HGa.out) rfl) rfl ?_
              rw [HRR.out]
              exact ⟨_, rfl, zero_arV, below_setRow HBa.out (Nat.le_refl _) _⟩
          exact AllReadyH.nil
        exact AllReadyH.nil
      exact AllReadyH.nil
    refine AllReadyH.cons (o := ?_) (by simp only [List.getElem?_toArray, List.getElem?_cons_zero, List.getElem?_cons_succ]; rfl) (fun K hK => ?_) ?_
    · go_simp
      have hrow := heap_alloc_new (ww1) (.cells #[.int .i64 0, .int .u8 0, .int .u8 0, .int .u8 0, .int .u8 0, .int .u8 0, .int .u8 0, .int .u8 0, .int .u8 0, .int .u8 0, .int .u8 0, .int .u8 0, .int .u8 0, .int .u8 0, .int .u8 0, .int .u8 0, .int .u8 0, .int .u8 0, .int .u8 0, .int .u8 0, .int .u8 0] 44)
      have hlow := hHeld.size
      refine hK.out _ _ (hHeld.alloc hHeld.size _) (fun hNew => ?_)
      clear hK K hHeld
      have hHeld := hNew
      clear hNew
      (try simp only [Act.put, List.setIfInBounds_toArray, List.set_cons_zero, List.set_cons_succ])
      generalize hgg : (ww1).heap.size = gg at hrow hlow ⊢
      generalize hv2 : (ww1).alloc (.cells #[.int .i64 0, .int .u8 0, .int .u8 0, .int .u8 0, .int .u8 0, .int .u8 0, .int .u8 0, .int .u8 0, .int .u8 0, .int .u8 0, .int .u8 0, .int .u8 0, .int .u8 0, .int .u8 0, .int .u8 0, .int .u8 0, .int .u8 0, .int .u8 0, .int .u8 0, .int .u8 0, .int .u8 0] 44) = ww2 at hrow hHeld ⊢
      clear hgg hv2
      refine wpAnyH_ready (rs := [8]) (by decide +kernel) (by simp) ?_
      refine AllReadyH.cons (o := ?_) (by simp only [List.getElem?_toArray, List.getElem?_cons_zero, List.getElem?_cons_succ]; rfl) (fun K hK => ?_) ?_
      · go_simp
        refine (ashost_lit _ _ _ _ _).mono ?_
        rintro e ww3 ⟨rfl, hb3⟩
        (try go_wp2_with fail)
        have hrow := (hb3.block _ (row_lt hrow)).trans hrow
        refine hK.out _ _ (hHeld.trans (hb3.mono hHeld.size)) (fun hNew => ?_)
        clear hK K hHeld
        have hHeld := hNew
        clear hNew
        (try simp only [Act.put, List.setIfInBounds_toArray, List.set_cons_zero, List.set_cons_succ])
        refine wpAnyH_ready (rs := [11]) (by decide +kernel) (by simp) ?_
        refine AllReadyH.cons (o := ?_) (by simp only [List.getElem?_toArray, List.getElem?_cons_zero, List.getElem?_cons_succ]; rfl) (fun K hK => ?_) ?_
        · go_simp
          refine (ascard_lit _ _ _ _ _ _ _).mono ?_
          rintro e ww4 ⟨rfl, hb4⟩
          (try go_wp2_with fail)
          have hrow := (hb4.block _ (row_lt hrow)).trans hrow
          refine hK.out _ _ (hHeld.trans (hb4.mono hHeld.size)) (fun hNew => ?_)
          clear hK K hHeld
          have hHeld := hNew
          clear hNew
          (try simp only [Act.put, List.setIfInBounds_toArray, List.set_cons_zero, List.set_cons_succ])
          refine wpAnyH_ready (rs := [14]) (by decide +kernel) (by simp) ?_
          refine AllReadyH.cons (o := ?_) (by simp only [List.getElem?_toArray, List.getElem?_cons_zero, List.getElem?_cons_succ]; rfl) (fun K hK => ?_) ?_
          · go_simp
            refine (ashost_lit _ _ _ _ _).mono ?_
            rintro e ww5 ⟨rfl, hb5⟩
            (try go_wp2_with fail)
            have hrow := (hb5.block _ (row_lt hrow)).trans hrow
            refine hK.out _ _ (hHeld.trans (hb5.mono hHeld.size)) (fun hNew => ?_)
            clear hK K hHeld
            have hHeld := hNew
            clear hNew
            (try simp only [Act.put, List.setIfInBounds_toArray, List.set_cons_zero, List.set_cons_succ])
            (refine wpAnyH_take (i := 15) (oi := ?_) (v := ?_) (by simp only [List.getElem?_toArray, List.getElem?_cons_zero, List.getElem?_cons_succ]; rfl) (by kernel_rfl) (by decide +kernel) (by decide +kernel) (by exact fun _ _ _ h => h) (Or.inl ⟨by rfl, ?_⟩) (by assumption) ?_; rotate_left; (focus (intro w hSw; go_simp; (try with_reducible rfl); done)); (try simp only [Act.put, List.setIfInBounds_toArray, List.set_cons_zero, List.set_cons_succ]))
            refine wpAnyH_ready (rs := [17]) (by decide +kernel) (by simp) ?_
            refine AllReadyH.cons (o := ?_) (by simp only [List.getElem?_toArray, List.getElem?_cons_zero, List.getElem?_cons_succ]; rfl) (fun K hK => ?_) AllReadyH.nil
            rw [if_pos (by rfl)]
            refine wp_store_row _ _ _ rfl gg #[.int .i64 (o.toNat : Int), .int .u8 (x0.toNat : Int), .int .u8 (x1.toNat : Int), .int .u8 (x2.toNat : Int), .int .u8 (x3.toNat : Int), .int .u8 (x4.toNat : Int), .int .u8 (x5.toNat : Int), .int .u8 (y0.toNat : Int), .int .u8 (y1.toNat : Int), .int .u8 (y2.toNat : Int), .int .u8 (y3.toNat : Int), .int .u8 (u0.toNat : Int), .int .u8 (u1.toNat : Int), .int .u8 (u2.toNat : Int), .int .u8 (u3.toNat : Int), .int .u8 (u4.toNat : Int), .int .u8 (u5.toNat : Int), .int .u8 (v0.toNat : Int), .int .u8 (v1.toNat : Int), .int .u8 (v2.toNat : Int), .int .u8 (v3.toNat : Int)] rfl rfl _ _ hrow (by kernel_rfl) rfl (by kernel_rfl) ?_
            refine hK.out _ _ (below_setRow hHeld hlow _) (fun _ => ?_)
            (try simp only [Act.put])
            refine wpAnyH_done (by decide +kernel) ?_ _
            clear hK K
            have HBv : Hid (Below w.heap.size w (ww5.setRow gg #[.int .i64 (o.toNat : Int), .int .u8 (x0.toNat : Int), .int .u8 (x1.toNat : Int), .int .u8 (x2.toNat : Int), .int .u8 (x3.toNat : Int), .int .u8 (x4.toNat : Int), .int .u8 (x5.toNat : Int), .int .u8 (y0.toNat : Int), .int .u8 (y1.toNat : Int), .int .u8 (y2.toNat : Int), .int .u8 (y3.toNat : Int), .int .u8 (u0.toNat : Int), .int .u8 (u1.toNat : Int), .int .u8 (u2.toNat : Int), .int .u8 (u3.toNat : Int), .int .u8 (u4.toNat : Int), .int .u8 (u5.toNat : Int), .int .u8 (v0.toNat : Int), .int .u8 (v1.toNat : Int), .int .u8 (v2.toNat : Int), .int .u8 (v3.toNat : Int)])) := below_setRow (HB0.out.trans (hHeld.mono HB0.out.size)) (Nat.le_of_lt (Nat.lt_of_lt_of_le (row_lt HG0.out) hlow)) _
            have HGv : Hid ((ww5.setRow gg #[.int .i64 (o.toNat : Int), .int .u8 (x0.toNat : Int), .int .u8 (x1.toNat : Int), .int .u8 (x2.toNat : Int), .int .u8 (x3.toNat : Int), .int .u8 (x4.toNat : Int), .int .u8 (x5.toNat : Int), .int .u8 (y0.toNat : Int), .int .u8 (y1.toNat : Int), .int .u8 (y2.toNat : Int), .int .u8 (y3.toNat : Int), .int .u8 (u0.toNat : Int), .int .u8 (u1.toNat : Int), .int .u8 (u2.toNat : Int), .int .u8 (u3.toNat : Int), .int .u8 (u4.toNat : Int), .int .u8 (u5.toNat : Int), .int .u8 (v0.toNat : Int), .int .u8 (v1.toNat : Int), .int .u8 (v2.toNat : Int), .int .u8 (v3.toNat : Int)]).heap[w.heap.size]? = some (.cells #[.int .i64 0, .int .u8 0, .int .u8 0, .int .u8 0, .int .u8 0, .int .u8 0, .int .u8 0, .int .u8 0, .int .u8 0, .int .u8 0, .int .u8 0, .int .u8 0, .int .u8 0, .int .u8 0, .int .u8 0, .int .u8 0, .int .u8 0, .int .u8 0, .int .u8 0, .int .u8 0, .int .u8 0] 44 (0, 0))) := (setRow_other ww5 gg w.heap.size _ (Nat.ne_of_lt (Nat.lt_of_lt_of_le (row_lt HG0.out) hlow))).trans ((hHeld.block _ (row_lt HG0.out)).trans HG0.out)
            have HAv : Hid ((ww5.setRow gg #[.int .i64 (o.toNat : Int), .int .u8 (x0.toNat : Int), .int .u8 (x1.toNat : Int), .int .u8 (x2.toNat : Int), .int .u8 (x3.toNat : Int), .int .u8 (x4.toNat : Int), .int .u8 (x5.toNat : Int), .int .u8 (y0.toNat : Int), .int .u8 (y1.toNat : Int), .int .u8 (y2.toNat : Int), .int .u8 (y3.toNat : Int), .int .u8 (u0.toNat : Int), .int .u8 (u1.toNat : Int), .int .u8 (u2.toNat : Int), .int .u8 (u3.toNat : Int), .int .u8 (u4.toNat : Int), .int .u8 (u5.toNat : Int), .int .u8 (v0.toNat : Int), .int .u8 (v1.toNat : Int), .int .u8 (v2.toNat : Int), .int .u8 (v3.toNat : Int)]).heap[gg]? = some (.cells #[.int .i64 (o.toNat : Int), .int .u8 (x0.toNat : Int), .int .u8 (x1.toNat : Int), .int .u8 (x2.toNat : Int), .int .u8 (x3.toNat : Int), .int .u8 (x4.toNat : Int), .int .u8 (x5.toNat : Int), .int .u8 (y0.toNat : Int), .int .u8 (y1.toNat : Int), .int .u8 (y2.toNat : Int), .int .u8 (y3.toNat : Int), .int .u8 (u0.toNat : Int), .int .u8 (u1.toNat : Int), .int .u8 (u2.toNat : Int), .int .u8 (u3.toNat : Int), .int .u8 (u4.toNat : Int), .int .u8 (u5.toNat : Int), .int .u8 (v0.toNat : Int), .int .u8 (v1.toNat : Int), .int .u8 (v2.toNat : Int), .int .u8 (v3.toNat : Int)] 44 (0, 0))) := setRow_heap _ _ _ _ _ _ hrow
            have HLv : Hid (w.heap.size < gg) := Nat.lt_of_lt_of_le (row_lt HG0.out) hlow
            clear hHeld hrow hlow
            generalize ww5.setRow gg #[.int .i64 (o.toNat : Int), .int .u8 (x0.toNat : Int), .int .u8 (x1.toNat : Int), .int .u8 (x2.toNat : Int), .int .u8 (x3.toNat : Int), .int .u8 (x4.toNat : Int), .int .u8 (x5.toNat : Int), .int .u8 (y0.toNat : Int), .int .u8 (y1.toNat : Int), .int .u8 (y2.toNat : Int), .int .u8 (y3.toNat : Int), .int .u8 (u0.toNat : Int), .int .u8 (u1.toNat : Int), .int .u8 (u2.toNat : Int), .int .u8 (u3.toNat : Int), .int .u8 (u4.toNat : Int), .int .u8 (u5.toNat : Int), .int .u8 (v0.toNat : Int), .int .u8 (v1.toNat : Int), .int .u8 (v2.toNat : Int), .int .u8 (v3.toNat : Int)] = v9 at HBv HGv HAv ⊢
            have hcl := refbuildarp_any #[.int .i64 (o.toNat : Int), .int .u8 (x0.toNat : Int), .int .u8 (x1.toNat : Int), .int .u8 (x2.toNat : Int), .int .u8 (x3.toNat : Int), .int .u8 (x4.toNat : Int), .int .u8 (x5.toNat : Int), .int .u8 (y0.toNat : Int), .int .u8 (y1.toNat : Int), .int .u8 (y2.toNat : Int), .int .u8 (y3.toNat : Int), .int .u8 (u0.toNat : Int), .int .u8 (u1.toNat : Int), .int .u8 (u2.toNat : Int), .int .u8 (u3.toNat : Int), .int .u8 (u4.toNat : Int), .int .u8 (u5.toNat : Int), .int .u8 (v0.toNat : Int), .int .u8 (v1.toNat : Int), .int .u8 (v2.toNat : Int), .int .u8 (v3.toNat : Int)] (⟨(o.toNat : Int), [x0, x1, x2, x3, x4, x5], [y0, y1, y2, y3], [u0, u1, u2, u3, u4, u5], [v0, v1, v2, v3]⟩ : Ar) v9 ⟨rfl, rfl, rfl, rfl, rfl⟩
            by_cases hk : knownB (o.toNat : Int) = true
            · rw [show buildA (⟨(o.toNat : Int), [x0, x1, x2, x3, x4, x5], [y0, y1, y2, y3], [u0, u1, u2, u3, u4, u5], [v0, v1, v2, v3]⟩ : Ar) = ((⟨(o.toNat : Int), [x0, x1, x2, x3, x4, x5], [y0, y1, y2, y3], [u0, u1, u2, u3, u4, u5], [v0, v1, v2, v3]⟩ : Ar).bytes, 0) from by unfold buildA; rw [if_pos hk]] at hcl
              have HCL := Lib.hid hcl
              clear hcl
              by_cases hT : TT = MM
              · have HRR := Lib.hid (HR.out.symm.trans (if_pos ⟨HEQ.out hT, hk⟩))
                have s6 := HS5.out.trans (congrArg (fun x : List UInt8 => (⟨x.toArray⟩ : ByteArray)) hT.symm)
                have HTT2 := Lib.hid HTT.out
                clear hk hT
                go_wp2_with (refine wpList_load_row rfl 44 _ rfl gg rfl _ #[.int .i64 (o.toNat : Int), .int .u8 (x0.toNat : Int), .int .u8 (x1.toNat : Int), .int .u8 (x2.toNat : Int), .int .u8 (x3.toNat : Int), .int .u8 (x4.toNat : Int), .int .u8 (x5.toNat : Int), .int .u8 (y0.toNat : Int), .int .u8 (y1.toNat : Int), .int .u8 (y2.toNat : Int), .int .u8 (y3.toNat : Int), .int .u8 (u0.toNat : Int), .int .u8 (u1.toNat : Int), .int .u8 (u2.toNat : Int), .int .u8 (u3.toNat : Int), .int .u8 (u4.toNat : Int), .int .u8 (u5.toNat : Int), .int .u8 (v0.toNat : Int), .int .u8 (v1.toNat : Int), .int .u8 (v2.toNat : Int), .int .u8 (v3.toNat : Int)] _ _ HAv.out Try.underlying44 rfl (by kernel_rfl) ?_)
                refine HCL.out.mono ?_
                rintro e va ⟨rfl, hba⟩
                rw [HTT.out]
                have HBa := Lib.hid (HBv.out.trans (hba.mono HBv.out.size))
                have HGa := Lib.hid ((hba.block _ (row_lt HGv.out)).trans HGv.out)
                have HAa := Lib.hid ((hba.block _ (row_lt HAv.out)).trans HAv.out)
                clear hba HBv HGv HAv HCL
                go_wp2_with (first | refine wpList_load_row rfl 44 _ rfl gg rfl _ #[.int .i64 (o.toNat : Int), .int .u8 (x0.toNat : Int), .int .u8 (x1.toNat : Int), .int .u8 (x2.toNat : Int), .int .u8 (x3.toNat : Int), .int .u8 (x4.toNat : Int), .int .u8 (x5.toNat : Int), .int .u8 (y0.toNat : Int), .int .u8 (y1.toNat : Int), .int .u8 (y2.toNat : Int), .int .u8 (y3.toNat : Int), .int .u8 (u0.toNat : Int), .int .u8 (u1.toNat : Int), .int .u8 (u2.toNat : Int), .int .u8 (u3.toNat : Int), .int .u8 (u4.toNat : Int), .int .u8 (u5.toNat : Int), .int .u8 (v0.toNat : Int), .int .u8 (v1.toNat : Int), .int .u8 (v2.toNat : Int), .int .u8 (v3.toNat : Int)] _ _ HAa.out Try.underlying44 rfl (by kernel_rfl) ?_ | refine wpList_store_row rfl 44 _ _ rfl w.heap.size #[.int .i64 (o.toNat : Int), .int .u8 (x0.toNat : Int), .int .u8 (x1.toNat : Int), .int .u8 (x2.toNat : Int), .int .u8 (x3.toNat : Int), .int .u8 (x4.toNat : Int), .int .u8 (x5.toNat : Int), .int .u8 (y0.toNat : Int), .int .u8 (y1.toNat : Int), .int .u8 (y2.toNat : Int), .int .u8 (y3.toNat : Int), .int .u8 (u0.toNat : Int), .int .u8 (u1.toNat : Int), .int .u8 (u2.toNat : Int), .int .u8 (u3.toNat : Int), .int .u8 (u4.toNat : Int), .int .u8 (u5.toNat : Int), .int .u8 (v0.toNat : Int), .int .u8 (v1.toNat : Int), .int .u8 (v2.toNat : Int), .int .u8 (v3.toNat : Int)] rfl rfl _ _ HGa.out (by kernel_rfl) rfl (by kernel_rfl) ?_)
                (try simp only [Exit.inBlock, Exit.then])
                refine ret_row (g := w.heap.size) (cs := #[.int .i64 (o.toNat : Int), .int .u8 (x0.toNat : Int), .int .u8 (x1.toNat : Int), .int .u8 (x2.toNat : Int), .int .u8 (x3.toNat : Int), .int .u8 (x4.toNat : Int), .int .u8 (x5.toNat : Int), .int .u8 (y0.toNat : Int), .int .u8 (y1.toNat : Int), .int .u8 (y2.toNat : Int), .int .u8 (y3.toNat : Int), .int .u8 (u0.toNat : Int), .int .u8 (u1.toNat : Int), .int .u8 (u2.toNat : Int), .int .u8 (u3.toNat : Int), .int .u8 (u4.toNat : Int), .int .u8 (u5.toNat : Int), .int .u8 (v0.toNat : Int), .int .u8 (v1.toNat : Int), .int .u8 (v2.toNat : Int), .int .u8 (v3.toNat : Int)]) rfl rfl (load_ar (setRow_heap va _ _ _ _ _ HGa.out) rfl) rfl ?_
                rw [HRR.out]
                exact ⟨_, rfl, ⟨rfl, rfl, rfl, rfl, rfl⟩, below_setRow HBa.out (Nat.le_refl _) _⟩
              · have HRR := Lib.hid (HR.out.symm.trans (if_neg fun h => hT (HNE.out h)))
                obtain ⟨z1, z2⟩ := texts_ne hT
                have s6 := HS5.out
                clear hk hT
                go_wp2_with (refine wpList_load_row rfl 44 _ rfl gg rfl _ #[.int .i64 (o.toNat : Int), .int .u8 (x0.toNat : Int), .int .u8 (x1.toNat : Int), .int .u8 (x2.toNat : Int), .int .u8 (x3.toNat : Int), .int .u8 (x4.toNat : Int), .int .u8 (x5.toNat : Int), .int .u8 (y0.toNat : Int), .int .u8 (y1.toNat : Int), .int .u8 (y2.toNat : Int), .int .u8 (y3.toNat : Int), .int .u8 (u0.toNat : Int), .int .u8 (u1.toNat : Int), .int .u8 (u2.toNat : Int), .int .u8 (u3.toNat : Int), .int .u8 (u4.toNat : Int), .int .u8 (u5.toNat : Int), .int .u8 (v0.toNat : Int), .int .u8 (v1.toNat : Int), .int .u8 (v2.toNat : Int), .int .u8 (v3.toNat : Int)] _ _ HAv.out Try.underlying44 rfl (by kernel_rfl) ?_)
                refine HCL.out.mono ?_
                rintro e va ⟨rfl, hba⟩
                rw [HTT.out]
                have HBa := Lib.hid (HBv.out.trans (hba.mono HBv.out.size))
                have HGa := Lib.hid ((hba.block _ (row_lt HGv.out)).trans HGv.out)
                clear hba HBv HGv HAv HCL
                go_wp2_with (refine wpList_store_row rfl 44 _ _ rfl w.heap.size #[.int .i64 0, .int .u8 0, .int .u8 0, .int .u8 0, .int .u8 0, .int .u8 0, .int .u8 0, .int .u8 0, .int .u8 0, .int .u8 0, .int .u8 0, .int .u8 0, .int .u8 0, .int .u8 0, .int .u8 0, .int .u8 0, .int .u8 0, .int .u8 0, .int .u8 0, .int .u8 0, .int .u8 0] rfl rfl _ _ HGa.out (by kernel_rfl) rfl (by kernel_rfl) ?_)
                (try simp only [Exit.inBlock, Exit.then])
                refine ret_row (g := w.heap.size) (cs := #[.int .i64 0, .int .u8 0, .int .u8 0, .int .u8 0, .int .u8 0, .int .u8 0, .int .u8 0, .int .u8 0, .int .u8 0, .int .u8 0, .int .u8 0, .int .u8 0, .int .u8 0, .int .u8 0, .int .u8 0, .int .u8 0, .int .u8 0, .int .u8 0, .int .u8 0, .int .u8 0, .int .u8 0]) rfl rfl (load_ar (setRow_heap va _ _ _ _ _ HGa.out) rfl) rfl ?_
                rw [HRR.out]
                exact ⟨_, rfl, zero_arV, below_setRow HBa.out (Nat.le_refl _) _⟩
            · rw [show buildA (⟨(o.toNat : Int), [x0, x1, x2, x3, x4, x5], [y0, y1, y2, y3], [u0, u1, u2, u3, u4, u5], [v0, v1, v2, v3]⟩ : Ar) = ([], 1) from by unfold buildA; rw [if_neg hk]] at hcl
              have HCL := Lib.hid hcl
              have HRR := Lib.hid (HR.out.symm.trans (if_neg fun h => hk h.2))
              clear hcl hk
              go_wp2_with (refine wpList_load_row rfl 44 _ rfl gg rfl _ #[.int .i64 (o.toNat : Int), .int .u8 (x0.toNat : Int), .int .u8 (x1.toNat : Int), .int .u8 (x2.toNat : Int), .int .u8 (x3.toNat : Int), .int .u8 (x4.toNat : Int), .int .u8 (x5.toNat : Int), .int .u8 (y0.toNat : Int), .int .u8 (y1.toNat : Int), .int .u8 (y2.toNat : Int), .int .u8 (y3.toNat : Int), .int .u8 (u0.toNat : Int), .int .u8 (u1.toNat : Int), .int .u8 (u2.toNat : Int), .int .u8 (u3.toNat : Int), .int .u8 (u4.toNat : Int), .int .u8 (u5.toNat : Int), .int .u8 (v0.toNat : Int), .int .u8 (v1.toNat : Int), .int .u8 (v2.toNat : Int), .int .u8 (v3.toNat : Int)] _ _ HAv.out Try.underlying44 rfl (by kernel_rfl) ?_)
              refine HCL.out.mono ?_
              rintro e va ⟨rfl, hba⟩
              have HBa := Lib.hid (HBv.out.trans (hba.mono HBv.out.size))
              have HGa := Lib.hid ((hba.block _ (row_lt HGv.out)).trans HGv.out)
              clear hba HBv HGv HAv HCL
              go_wp2_with (refine wpList_store_row rfl 44 _ _ rfl w.heap.size #[.int .i64 0, .int .u8 0, .int .u8 0, .int .u8 0, .int .u8 0, .int .u8 0, .int .u8 0, .int .u8 0, .int .u8 0, .int .u8 0, .int .u8 0, .int .u8 0, .int .u8 0, .int .u8 0, .int .u8 0, .int .u8 0, .int .u8 0, .int .u8 0, .int .u8 0, .int .u8 0, .int .u8 0] rfl rfl _ _ HGa.out (by kernel_rfl) rfl (by kernel_rfl) ?_)
              (try simp only [Exit.inBlock, Exit.then])
              refine ret_row (g := w.heap.size) (cs := #[.int .i64 0, .int .u8 0, .int .u8 0, .int .u8 0, .int .u8 0, .int .u8 0, .int .u8 0, .int .u8 0, .int .u8 0, .int .u8 0, .int .u8 0, .int .u8 0, .int .u8 0, .int .u8 0, .int .u8 0, .int .u8 0, .int .u8 0, .int .u8 0, .int .u8 0, .int .u8 0, .int .u8 0]) rfl rfl (load_ar (setRow_heap va _ _ _ _ _ HGa.out) rfl) rfl ?_
              rw [HRR.out]
              exact ⟨_, rfl, zero_arV, below_setRow HBa.out (Nat.le_refl _) _⟩
          exact AllReadyH.nil
        exact AllReadyH.nil
      exact AllReadyH.nil
    exact AllReadyH.nil
  refine AllReadyH.cons (o := ?_) (by simp only [List.getElem?_toArray, List.getElem?_cons_zero, List.getElem?_cons_succ]; rfl) (fun K hK => ?_) ?_
  · go_simp
    have hrow := heap_alloc_new (wd) (.cells #[.int .i64 0, .int .u8 0, .int .u8 0, .int .u8 0, .int .u8 0, .int .u8 0, .int .u8 0, .int .u8 0, .int .u8 0, .int .u8 0, .int .u8 0, .int .u8 0, .int .u8 0, .int .u8 0, .int .u8 0, .int .u8 0, .int .u8 0, .int .u8 0, .int .u8 0, .int .u8 0, .int .u8 0] 44)
    have hlow := hHeld.size
    refine hK.out _ _ (hHeld.alloc hHeld.size _) (fun hNew => ?_)
    clear hK K hHeld
    have hHeld := hNew
    clear hNew
    (try simp only [Act.put, List.setIfInBounds_toArray, List.set_cons_zero, List.set_cons_succ])
    generalize hgg : (wd).heap.size = gg at hrow hlow ⊢
    generalize hv1 : (wd).alloc (.cells #[.int .i64 0, .int .u8 0, .int .u8 0, .int .u8 0, .int .u8 0, .int .u8 0, .int .u8 0, .int .u8 0, .int .u8 0, .int .u8 0, .int .u8 0, .int .u8 0, .int .u8 0, .int .u8 0, .int .u8 0, .int .u8 0, .int .u8 0, .int .u8 0, .int .u8 0, .int .u8 0, .int .u8 0] 44) = ww1 at hrow hHeld ⊢
    clear hgg hv1
    refine wpAnyH_ready (rs := [5]) (by decide +kernel) (by simp) ?_
    refine AllReadyH.cons (o := ?_) (by simp only [List.getElem?_toArray, List.getElem?_cons_zero, List.getElem?_cons_succ]; rfl) (fun K hK => ?_) ?_
    · go_simp
      refine (ascard_lit _ _ _ _ _ _ _).mono ?_
      rintro e ww2 ⟨rfl, hb2⟩
      (try go_wp2_with fail)
      have hrow := (hb2.block _ (row_lt hrow)).trans hrow
      refine hK.out _ _ (hHeld.trans (hb2.mono hHeld.size)) (fun hNew => ?_)
      clear hK K hHeld
      have hHeld := hNew
      clear hNew
      (try simp only [Act.put, List.setIfInBounds_toArray, List.set_cons_zero, List.set_cons_succ])
      refine wpAnyH_ready (rs := [8]) (by decide +kernel) (by simp) ?_
      refine AllReadyH.cons (o := ?_) (by simp only [List.getElem?_toArray, List.getElem?_cons_zero, List.getElem?_cons_succ]; rfl) (fun K hK => ?_) ?_
      · go_simp
        refine (ashost_lit _ _ _ _ _).mono ?_
        rintro e ww3 ⟨rfl, hb3⟩
        (try go_wp2_with fail)
        have hrow := (hb3.block _ (row_lt hrow)).trans hrow
        refine hK.out _ _ (hHeld.trans (hb3.mono hHeld.size)) (fun hNew => ?_)
        clear hK K hHeld
        have hHeld := hNew
        clear hNew
        (try simp only [Act.put, List.setIfInBounds_toArray, List.set_cons_zero, List.set_cons_succ])
        refine wpAnyH_ready (rs := [11]) (by decide +kernel) (by simp) ?_
        refine AllReadyH.cons (o := ?_) (by simp only [List.getElem?_toArray, List.getElem?_cons_zero, List.getElem?_cons_succ]; rfl) (fun K hK => ?_) ?_
        · go_simp
          refine (ascard_lit _ _ _ _ _ _ _).mono ?_
          rintro e ww4 ⟨rfl, hb4⟩
          (try go_wp2_with fail)
          have hrow := (hb4.block _ (row_lt hrow)).trans hrow
          refine hK.out _ _ (hHeld.trans (hb4.mono hHeld.size)) (fun hNew => ?_)
          clear hK K hHeld
          have hHeld := hNew
          clear hNew
          (try simp only [Act.put, List.setIfInBounds_toArray, List.set_cons_zero, List.set_cons_succ])
          refine wpAnyH_ready (rs := [14]) (by decide +kernel) (by simp) ?_
          refine AllReadyH.cons (o := ?_) (by simp only [List.getElem?_toArray, List.getElem?_cons_zero, List.getElem?_cons_succ]; rfl) (fun K hK => ?_) ?_
          · go_simp
            refine (ashost_lit _ _ _ _ _).mono ?_
            rintro e ww5 ⟨rfl, hb5⟩
            (try go_wp2_with fail)
            have hrow := (hb5.block _ (row_lt hrow)).trans hrow
            refine hK.out _ _ (hHeld.trans (hb5.mono hHeld.size)) (fun hNew => ?_)
            clear hK K hHeld
            have hHeld := hNew
            clear hNew
            (try simp only [Act.put, List.setIfInBounds_toArray, List.set_cons_zero, List.set_cons_succ])
            (refine wpAnyH_take (i := 15) (oi := ?_) (v := ?_) (by simp only [List.getElem?_toArray, List.getElem?_cons_zero, List.getElem?_cons_succ]; rfl) (by kernel_rfl) (by decide +kernel) (by decide +kernel) (by exact fun _ _ _ h => h) (Or.inl ⟨by rfl, ?_⟩) (by assumption) ?_; rotate_left; (focus (intro w hSw; go_simp; (try with_reducible rfl); done)); (try simp only [Act.put, List.setIfInBounds_toArray, List.set_cons_zero, List.set_cons_succ]))
            refine wpAnyH_ready (rs := [17]) (by decide +kernel) (by simp) ?_
            refine AllReadyH.cons (o := ?_) (by simp only [List.getElem?_toArray, List.getElem?_cons_zero, List.getElem?_cons_succ]; rfl) (fun K hK => ?_) AllReadyH.nil
            rw [if_pos (by rfl)]
            refine wp_store_row _ _ _ rfl gg #[.int .i64 (o.toNat : Int), .int .u8 (x0.toNat : Int), .int .u8 (x1.toNat : Int), .int .u8 (x2.toNat : Int), .int .u8 (x3.toNat : Int), .int .u8 (x4.toNat : Int), .int .u8 (x5.toNat : Int), .int .u8 (y0.toNat : Int), .int .u8 (y1.toNat : Int), .int .u8 (y2.toNat : Int), .int .u8 (y3.toNat : Int), .int .u8 (u0.toNat : Int), .int .u8 (u1.toNat : Int), .int .u8 (u2.toNat : Int), .int .u8 (u3.toNat : Int), .int .u8 (u4.toNat : Int), .int .u8 (u5.toNat : Int), .int .u8 (v0.toNat : Int), .int .u8 (v1.toNat : Int), .int .u8 (v2.toNat : Int), .int .u8 (v3.toNat : Int)] rfl rfl _ _ hrow (by kernel_rfl) rfl (by kernel_rfl) ?_
            refine hK.out _ _ (below_setRow hHeld hlow _) (fun _ => ?_)
            (try simp only [Act.put])
            refine wpAnyH_done (by decide +kernel) ?_ _
            clear hK K
            have HBv : Hid (Below w.heap.size w (ww5.setRow gg #[.int .i64 (o.toNat : Int), .int .u8 (x0.toNat : Int), .int .u8 (x1.toNat : Int), .int .u8 (x2.toNat : Int), .int .u8 (x3.toNat : Int), .int .u8 (x4.toNat : Int), .int .u8 (x5.toNat : Int), .int .u8 (y0.toNat : Int), .int .u8 (y1.toNat : Int), .int .u8 (y2.toNat : Int), .int .u8 (y3.toNat : Int), .int .u8 (u0.toNat : Int), .int .u8 (u1.toNat : Int), .int .u8 (u2.toNat : Int), .int .u8 (u3.toNat : Int), .int .u8 (u4.toNat : Int), .int .u8 (u5.toNat : Int), .int .u8 (v0.toNat : Int), .int .u8 (v1.toNat : Int), .int .u8 (v2.toNat : Int), .int .u8 (v3.toNat : Int)])) := below_setRow (HB0.out.trans (hHeld.mono HB0.out.size)) (Nat.le_of_lt (Nat.lt_of_lt_of_le (row_lt HG0.out) hlow)) _
            have HGv : Hid ((ww5.setRow gg #[.int .i64 (o.toNat : Int), .int .u8 (x0.toNat : Int), .int .u8 (x1.toNat : Int), .int .u8 (x2.toNat : Int), .int .u8 (x3.toNat : Int), .int .u8 (x4.toNat : Int), .int .u8 (x5.toNat : Int), .int .u8 (y0.toNat : Int), .int .u8 (y1.toNat : Int), .int .u8 (y2.toNat : Int), .int .u8 (y3.toNat : Int), .int .u8 (u0.toNat : Int), .int .u8 (u1.toNat : Int), .int .u8 (u2.toNat : Int), .int .u8 (u3.toNat : Int), .int .u8 (u4.toNat : Int), .int .u8 (u5.toNat : Int), .int .u8 (v0.toNat : Int), .int .u8 (v1.toNat : Int), .int .u8 (v2.toNat : Int), .int .u8 (v3.toNat : Int)]).heap[w.heap.size]? = some (.cells #[.int .i64 0, .int .u8 0, .int .u8 0, .int .u8 0, .int .u8 0, .int .u8 0, .int .u8 0, .int .u8 0, .int .u8 0, .int .u8 0, .int .u8 0, .int .u8 0, .int .u8 0, .int .u8 0, .int .u8 0, .int .u8 0, .int .u8 0, .int .u8 0, .int .u8 0, .int .u8 0, .int .u8 0] 44 (0, 0))) := (setRow_other ww5 gg w.heap.size _ (Nat.ne_of_lt (Nat.lt_of_lt_of_le (row_lt HG0.out) hlow))).trans ((hHeld.block _ (row_lt HG0.out)).trans HG0.out)
            have HAv : Hid ((ww5.setRow gg #[.int .i64 (o.toNat : Int), .int .u8 (x0.toNat : Int), .int .u8 (x1.toNat : Int), .int .u8 (x2.toNat : Int), .int .u8 (x3.toNat : Int), .int .u8 (x4.toNat : Int), .int .u8 (x5.toNat : Int), .int .u8 (y0.toNat : Int), .int .u8 (y1.toNat : Int), .int .u8 (y2.toNat : Int), .int .u8 (y3.toNat : Int), .int .u8 (u0.toNat : Int), .int .u8 (u1.toNat : Int), .int .u8 (u2.toNat : Int), .int .u8 (u3.toNat : Int), .int .u8 (u4.toNat : Int), .int .u8 (u5.toNat : Int), .int .u8 (v0.toNat : Int), .int .u8 (v1.toNat : Int), .int .u8 (v2.toNat : Int), .int .u8 (v3.toNat : Int)]).heap[gg]? = some (.cells #[.int .i64 (o.toNat : Int), .int .u8 (x0.toNat : Int), .int .u8 (x1.toNat : Int), .int .u8 (x2.toNat : Int), .int .u8 (x3.toNat : Int), .int .u8 (x4.toNat : Int), .int .u8 (x5.toNat : Int), .int .u8 (y0.toNat : Int), .int .u8 (y1.toNat : Int), .int .u8 (y2.toNat : Int), .int .u8 (y3.toNat : Int), .int .u8 (u0.toNat : Int), .int .u8 (u1.toNat : Int), .int .u8 (u2.toNat : Int), .int .u8 (u3.toNat : Int), .int .u8 (u4.toNat : Int), .int .u8 (u5.toNat : Int), .int .u8 (v0.toNat : Int), .int .u8 (v1.toNat : Int), .int .u8 (v2.toNat : Int), .int .u8 (v3.toNat : Int)] 44 (0, 0))) := setRow_heap _ _ _ _ _ _ hrow
            have HLv : Hid (w.heap.size < gg) := Nat.lt_of_lt_of_le (row_lt HG0.out) hlow
            clear hHeld hrow hlow
            generalize ww5.setRow gg #[.int .i64 (o.toNat : Int), .int .u8 (x0.toNat : Int), .int .u8 (x1.toNat : Int), .int .u8 (x2.toNat : Int), .int .u8 (x3.toNat : Int), .int .u8 (x4.toNat : Int), .int .u8 (x5.toNat : Int), .int .u8 (y0.toNat : Int), .int .u8 (y1.toNat : Int), .int .u8 (y2.toNat : Int), .int .u8 (y3.toNat : Int), .int .u8 (u0.toNat : Int), .int .u8 (u1.toNat : Int), .int .u8 (u2.toNat : Int), .int .u8 (u3.toNat : Int), .int .u8 (u4.toNat : Int), .int .u8 (u5.toNat : Int), .int .u8 (v0.toNat : Int), .int .u8 (v1.toNat : Int), .int .u8 (v2.toNat : Int), .int .u8 (v3.toNat : Int)] = v9 at HBv HGv HAv ⊢
            have hcl := refbuildarp_any #[.int .i64 (o.toNat : Int), .int .u8 (x0.toNat : Int), .int .u8 (x1.toNat : Int), .int .u8 (x2.toNat : Int), .int .u8 (x3.toNat : Int), .int .u8 (x4.toNat : Int), .int .u8 (x5.toNat : Int), .int .u8 (y0.toNat : Int), .int .u8 (y1.toNat : Int), .int .u8 (y2.toNat : Int), .int .u8 (y3.toNat : Int), .int .u8 (u0.toNat : Int), .int .u8 (u1.toNat : Int), .int .u8 (u2.toNat : Int), .int .u8 (u3.toNat : Int), .int .u8 (u4.toNat : Int), .int .u8 (u5.toNat : Int), .int .u8 (v0.toNat : Int), .int .u8 (v1.toNat : Int), .int .u8 (v2.toNat : Int), .int .u8 (v3.toNat : Int)] (⟨(o.toNat : Int), [x0, x1, x2, x3, x4, x5], [y0, y1, y2, y3], [u0, u1, u2, u3, u4, u5], [v0, v1, v2, v3]⟩ : Ar) v9 ⟨rfl, rfl, rfl, rfl, rfl⟩
            by_cases hk : knownB (o.toNat : Int) = true
            · rw [show buildA (⟨(o.toNat : Int), [x0, x1, x2, x3, x4, x5], [y0, y1, y2, y3], [u0, u1, u2, u3, u4, u5], [v0, v1, v2, v3]⟩ : Ar) = ((⟨(o.toNat : Int), [x0, x1, x2, x3, x4, x5], [y0, y1, y2, y3], [u0, u1, u2, u3, u4, u5], [v0, v1, v2, v3]⟩ : Ar).bytes, 0) from by unfold buildA; rw [if_pos hk]] at hcl
              have HCL := Lib.hid hcl
              clear hcl
              by_cases hT : TT = MM
              · have HRR := Lib.hid (HR.out.symm.trans (if_pos ⟨HEQ.out hT, hk⟩))
                have s6 := HS5.out.trans (congrArg (fun x : List UInt8 => (⟨x.toArray⟩ : ByteArray)) hT.symm)
                have HTT2 := Lib.hid HTT.out
                clear hk hT
                go_wp2_with (refine wpList_load_row rfl 44 _ rfl gg rfl _ #[.int .i64 (o.toNat : Int), .int .u8 (x0.toNat : Int), .int .u8 (x1.toNat : Int), .int .u8 (x2.toNat : Int), .int .u8 (x3.toNat : Int), .int .u8 (x4.toNat : Int), .int .u8 (x5.toNat : Int), .int .u8 (y0.toNat : Int), .int .u8 (y1.toNat : Int), .int .u8 (y2.toNat : Int), .int .u8 (y3.toNat : Int), .int .u8 (u0.toNat : Int), .int .u8 (u1.toNat : Int), .int .u8 (u2.toNat : Int), .int .u8 (u3.toNat : Int), .int .u8 (u4.toNat : Int), .int .u8 (u5.toNat : Int), .int .u8 (v0.toNat : Int), .int .u8 (v1.toNat : Int), .int .u8 (v2.toNat : Int), .int .u8 (v3.toNat : Int)] _ _ HAv.out Try.underlying44 rfl (by kernel_rfl) ?_)
                refine HCL.out.mono ?_
                rintro e va ⟨rfl, hba⟩
                rw [HTT.out]
                have HBa := Lib.hid (HBv.out.trans (hba.mono HBv.out.size))
                have HGa := Lib.hid ((hba.block _ (row_lt HGv.out)).trans HGv.out)
                have HAa := Lib.hid ((hba.block _ (row_lt HAv.out)).trans HAv.out)
                clear hba HBv HGv HAv HCL
                go_wp2_with (first | refine wpList_load_row rfl 44 _ rfl gg rfl _ #[.int .i64 (o.toNat : Int), .int .u8 (x0.toNat : Int), .int .u8 (x1.toNat : Int), .int .u8 (x2.toNat : Int), .int .u8 (x3.toNat : Int), .int .u8 (x4.toNat : Int), .int .u8 (x5.toNat : Int), .int .u8 (y0.toNat : Int), .int .u8 (y1.toNat : Int), .int .u8 (y2.toNat : Int), .int .u8 (y3.toNat : Int), .int .u8 (u0.toNat : Int), .int .u8 (u1.toNat : Int), .int .u8 (u2.toNat : Int), .int .u8 (u3.toNat : Int), .int .u8 (u4.toNat : Int), .int .u8 (u5.toNat : Int), .int .u8 (v0.toNat : Int), .int .u8 (v1.toNat : Int), .int .u8 (v2.toNat : Int), .int .u8 (v3.toNat : Int)] _ _ HAa.out Try.underlying44 rfl (by kernel_rfl) ?_ | refine wpList_store_row rfl 44 _ _ rfl w.heap.size #[.int .i64 (o.toNat : Int), .int .u8 (x0.toNat : Int), .int .u8 (x1.toNat : Int), .int .u8 (x2.toNat : Int), .int .u8 (x3.toNat : Int), .int .u8 (x4.toNat : Int), .int .u8 (x5.toNat : Int), .int .u8 (y0.toNat : Int), .int .u8 (y1.toNat : Int), .int .u8 (y2.toNat : Int), .int .u8 (y3.toNat : Int), .int .u8 (u0.toNat : Int), .int .u8 (u1.toNat : Int), .int .u8 (u2.toNat : Int), .int .u8 (u3.toNat : Int), .int .u8 (u4.toNat : Int), .int .u8 (u5.toNat : Int), .int .u8 (v0.toNat : Int), .int .u8 (v1.toNat : Int), .int .u8 (v2.toNat : Int), .int .u8 (v3.toNat : Int)] rfl rfl _ _ HGa.out (by kernel_rfl) rfl (by kernel_rfl) ?_)
                (try simp only [Exit.inBlock, Exit.then])
                refine ret_row (g := w.heap.size) (cs := #[.int .i64 (o.toNat : Int), .int .u8 (x0.toNat : Int), .int .u8 (x1.toNat : Int), .int .u8 (x2.toNat : Int), .int .u8 (x3.toNat : Int), .int .u8 (x4.toNat : Int), .int .u8 (x5.toNat : Int), .int .u8 (y0.toNat : Int), .int .u8 (y1.toNat : Int), .int .u8 (y2.toNat : Int), .int .u8 (y3.toNat : Int), .int .u8 (u0.toNat : Int), .int .u8 (u1.toNat : Int), .int .u8 (u2.toNat : Int), .int .u8 (u3.toNat : Int), .int .u8 (u4.toNat : Int), .int .u8 (u5.toNat : Int), .int .u8 (v0.toNat : Int), .int .u8 (v1.toNat : Int), .int .u8 (v2.toNat : Int), .int .u8 (v3.toNat : Int)]) rfl rfl (load_ar (setRow_heap va _ _ _ _ _ HGa.out) rfl) rfl ?_
                rw [HRR.out]
                exact ⟨_, rfl, ⟨rfl, rfl, rfl, rfl, rfl⟩, below_setRow HBa.out (Nat.le_refl _) _⟩
              · have HRR := Lib.hid (HR.out.symm.trans (if_neg fun h => hT (HNE.out h)))
                obtain ⟨z1, z2⟩ := texts_ne hT
                have s6 := HS5.out
                clear hk hT
                go_wp2_with (refine wpList_load_row rfl 44 _ rfl gg rfl _ #[.int .i64 (o.toNat : Int), .int .u8 (x0.toNat : Int), .int .u8 (x1.toNat : Int), .int .u8 (x2.toNat : Int), .int .u8 (x3.toNat : Int), .int .u8 (x4.toNat : Int), .int .u8 (x5.toNat : Int), .int .u8 (y0.toNat : Int), .int .u8 (y1.toNat : Int), .int .u8 (y2.toNat : Int), .int .u8 (y3.toNat : Int), .int .u8 (u0.toNat : Int), .int .u8 (u1.toNat : Int), .int .u8 (u2.toNat : Int), .int .u8 (u3.toNat : Int), .int .u8 (u4.toNat : Int), .int .u8 (u5.toNat : Int), .int .u8 (v0.toNat : Int), .int .u8 (v1.toNat : Int), .int .u8 (v2.toNat : Int), .int .u8 (v3.toNat : Int)] _ _ HAv.out Try.underlying44 rfl (by kernel_rfl) ?_)
                refine HCL.out.mono ?_
                rintro e va ⟨rfl, hba⟩
                rw [HTT.out]
                have HBa := Lib.hid (HBv.out.trans (hba.mono HBv.out.size))
                have HGa := Lib.hid ((hba.block _ (row_lt HGv.out)).trans HGv.out)
                clear hba HBv HGv HAv HCL
                go_wp2_with (refine wpList_store_row rfl 44 _ _ rfl w.heap.size #[.int .i64 0, .int .u8 0, .int .u8 0, .int .u8 0, .int .u8 0, .int .u8 0, .int .u8 0, .int .u8 0, .int .u8 0, .int .u8 0, .int .u8 0, .int .u8 0, .int .u8 0, .int .u8 0, .int .u8 0, .int .u8 0, .int .u8 0, .int .u8 0, .int .u8 0, .int .u8 0, .int .u8 0] rfl rfl _ _ HGa.out (by kernel_rfl) rfl (by kernel_rfl) ?_)
                (try simp only [Exit.inBlock, Exit.then])
                refine ret_row (g := w.heap.size) (cs := #[.int .i64 0, .int .u8 0, .int .u8 0, .int .u8 0, .int .u8 0, .int .u8 0, .int .u8 0, .int .u8 0, .int .u8 0, .int .u8 0, .int .u8 0, .int .u8 0, .int .u8 0, .int .u8 0, .int .u8 0, .int .u8 0, .int .u8 0, .int .u8 0, .int .u8 0, .int .u8 0, .int .u8 0]) rfl rfl (load_ar (setRow_heap va _ _ _ _ _ HGa.out) rfl) rfl ?_
                rw [HRR.out]
                exact ⟨_, rfl, zero_arV, below_setRow HBa.out (Nat.le_refl _) _⟩
            · rw [show buildA (⟨(o.toNat : Int), [x0, x1, x2, x3, x4, x5], [y0, y1, y2, y3], [u0, u1, u2, u3, u4, u5], [v0, v1, v2, v3]⟩ : Ar) = ([], 1) from by unfold buildA; rw [if_neg hk]] at hcl
              have HCL := Lib.hid hcl
              have HRR := Lib.hid (HR.out.symm.trans (if_neg fun h => hk h.2))
              clear hcl hk
              go_wp2_with (refine wpList_load_row rfl 44 _ rfl gg rfl _ #[.int .i64 (o.toNat : Int), .int .u8 (x0.toNat : Int), .int .u8 (x1.toNat : Int), .int .u8 (x2.toNat : Int), .int .u8 (x3.toNat : Int), .int .u8 (x4.toNat : Int), .int .u8 (x5.toNat : Int), .int .u8 (y0.toNat : Int), .int .u8 (y1.toNat : Int), .int .u8 (y2.toNat : Int), .int .u8 (y3.toNat : Int), .int .u8 (u0.toNat : Int), .int .u8 (u1.toNat : Int), .int .u8 (u2.toNat : Int), .int .u8 (u3.toNat : Int), .int .u8 (u4.toNat : Int), .int .u8 (u5.toNat : Int), .int .u8 (v0.toNat : Int), .int .u8 (v1.toNat : Int), .int .u8 (v2.toNat : Int), .int .u8 (v3.toNat : Int)] _ _ HAv.out Try.underlying44 rfl (by kernel_rfl) ?_)
              refine HCL.out.mono ?_
              rintro e va ⟨rfl, hba⟩
              have HBa := Lib.hid (HBv.out.trans (hba.mono HBv.out.size))
              have HGa := Lib.hid ((hba.block _ (row_lt HGv.out)).trans HGv.out)
              clear hba HBv HGv HAv HCL
              go_wp2_with (refine wpList_store_row rfl 44 _ _ rfl w.heap.size #[.int .i64 0, .int .u8 0, .int .u8 0, .int .u8 0, .int .u8 0, .int .u8 0, .int .u8 0, .int .u8 0, .int .u8 0, .int .u8 0, .int .u8 0, .int .u8 0, .int .u8 0, .int .u8 0, .int .u8 0, .int .u8 0, .int .u8 0, .int .u8 0, .int .u8 0, .int .u8 0, .int .u8 0] rfl rfl _ _ HGa.out (by kernel_rfl) rfl (by kernel_rfl) ?_)
              (try simp only [Exit.inBlock, Exit.then])
              refine ret_row (g := w.heap.size) (cs := #[.int .i64 0, .int .u8 0, .int .u8 0, .int .u8 0, .int .u8 0, .int .u8 0, .int .u8 0, .int .u8 0, .int .u8 0, .int .u8 0, .int .u8 0, .int .u8 0, .int .u8 0, .int .u8 0, .int .u8 0, .int .u8 0, .int .u8 0, .int .u8 0, .int .u8 0, .int .u8 0, .int .u8 0]) rfl rfl (load_ar (setRow_heap va _ _ _ _ _ HGa.out) rfl) rfl ?_
              rw [HRR.out]
              exact ⟨_, rfl, zero_arV, below_setRow HBa.out (Nat.le_refl _) _⟩
          exact AllReadyH.nil
        exact AllReadyH.nil
      exact AllReadyH.nil
    exact AllReadyH.nil
  exact AllReadyH.nil

/-- caravelref05.ParseArp, all of it -/
theorem refparsearp_any (l : List UInt8) (w : World) (hl : l.length ≤ 1000000000) :
    Calls Try.prog 18 #[txt l] w (ArpPost w (parseA l)) := by
  by_cases h1 : l.length < 28
  · have e : parseA l = (Ar.zero, 6) := by unfold parseA; rw [if_pos h1]
    rw [e]
    exact refparsearp_cut l w h1
  · obtain ⟨k0, k1, k2, k3, k4, k5, k6, o, x0, x1, x2, x3, x4, x5, y0, y1, y2, y3, u0, u1, u2, u3, u4, u5, v0, v1, v2, v3, b, rfl⟩ := twentyeight l (by omega)
    have hl' : (k0 :: k1 :: k2 :: k3 :: k4 :: k5 :: k6 :: o :: x0 :: x1 :: x2 :: x3 :: x4 :: x5 :: y0 :: y1 :: y2 :: y3 :: u0 :: u1 :: u2 :: u3 :: u4 :: u5 :: v0 :: v1 :: v2 :: v3 :: b).length = 28 + b.length := by simp; omega
    have hp := refparsearp_full (k0 :: k1 :: k2 :: k3 :: k4 :: k5 :: k6 :: o :: x0 :: x1 :: x2 :: x3 :: x4 :: x5 :: y0 :: y1 :: y2 :: y3 :: u0 :: u1 :: u2 :: u3 :: u4 :: u5 :: v0 :: v1 :: v2 :: v3 :: b) [k0, k1, k2, k3, k4, k5, k6] o x0 x1 x2 x3 x4 x5 y0 y1 y2 y3 u0 u1 u2 u3 u4 u5 v0 v1 v2 v3 w rfl (by omega) hl
      (cut_mid _ 8 14 (by omega) (by omega)) (cut_mid _ 14 18 (by omega) (by omega)) (cut_mid _ 18 24 (by omega) (by omega)) (cut_mid _ 24 28 (by omega) (by omega)) (cut_mid _ 0 28 (by omega) (by omega)) (fun hh => rfl)
    have e : parseA (k0 :: k1 :: k2 :: k3 :: k4 :: k5 :: k6 :: o :: x0 :: x1 :: x2 :: x3 :: x4 :: x5 :: y0 :: y1 :: y2 :: y3 :: u0 :: u1 :: u2 :: u3 :: u4 :: u5 :: v0 :: v1 :: v2 :: v3 :: b) = (if [k0, k1, k2, k3, k4, k5, k6] = headB ∧ knownB (o.toNat : Int) = true then ((⟨(o.toNat : Int), [x0, x1, x2, x3, x4, x5], [y0, y1, y2, y3], [u0, u1, u2, u3, u4, u5], [v0, v1, v2, v3]⟩ : Ar), 0) else (Ar.zero, 7)) := by
      unfold parseA
      rw [if_neg h1]
      rfl
    rw [e]
    exact hp
end Go.Proofs.Ytooepllgefndnaa
