/-
  The document's own answer for the frame of bytes (caravelref05.Parse), where the bytes are a frame's. Every text.
-/
import Derived.Test.YtooepllgefndnaaRefParse
import Derived.Deep.RegionHeld
namespace Go.Proofs.Ytooepllgefndnaa
open Go.RowKit

/-- a piece of a text -/
theorem cut_mid (l : List UInt8) (a b : Nat) (_h : b ≤ l.length) (hab : a ≤ b) : (⟨l.toArray⟩ : ByteArray).extract a b = ⟨((l.take b).drop a).toArray⟩ := by
  apply ByteArray.ext
  rw [ByteArray.data_extract]
  simp [List.take_drop, show a + (b - a) = b from by omega]
theorem kind_of (z0 z1 : UInt8) : (IntKind.u16.wrap (IntKind.u16.wrap (IntKind.u16.wrap (z0.toNat : Int) * 256) + IntKind.u16.wrap (z1.toNat : Int))) = ((getV [z0, z1] : Nat) : Int) := by
  have h0 := z0.toNat_lt
  have h1 := z1.toNat_lt
  have e : getV [z0, z1] = z0.toNat * 256 + z1.toNat := by simp [getV]
  rw [e, IntWalk.u16_in (z0.toNat : Int) ⟨by omega, by omega⟩, IntWalk.u16_in (z1.toNat : Int) ⟨by omega, by omega⟩, IntWalk.u16_in ((z0.toNat : Int) * 256) ⟨by omega, by omega⟩, IntWalk.u16_in _ ⟨by omega, by omega⟩]
  omega
theorem fin_fr (w v : World) (gg n cc : Nat) (b : List UInt8) (x0 x1 x2 x3 x4 x5 y0 y1 y2 y3 y4 y5 z0 z1 : UInt8) (hBl : Below w.heap.size w v) (hR : Rd v gg (gg + 1) (some ⟨gg, 0, none⟩) (cells b)) (hl : w.heap.size < gg) (hq : gg < v.heap.size) (hbn : b.length = n) (hcp : n ≤ cc ∧ cc ≤ maxLen) :
    ParsePost w (⟨[x0, x1, x2, x3, x4, x5], [y0, y1, y2, y3, y4, y5], getV [z0, z1], b⟩, 0) (.returned (.tuple #[.agg #[.int .u8 (x0.toNat : Int), .int .u8 (x1.toNat : Int), .int .u8 (x2.toNat : Int), .int .u8 (x3.toNat : Int), .int .u8 (x4.toNat : Int), .int .u8 (x5.toNat : Int), .int .u8 (y0.toNat : Int), .int .u8 (y1.toNat : Int), .int .u8 (y2.toNat : Int), .int .u8 (y3.toNat : Int), .int .u8 (y4.toNat : Int), .int .u8 (y5.toNat : Int), .int .u16 (IntKind.u16.wrap (IntKind.u16.wrap (IntKind.u16.wrap (z0.toNat : Int) * 256) + IntKind.u16.wrap (z1.toNat : Int))), .slice (some ⟨gg, 0, none⟩) n cc], .int .i64 0])) (v.setRow w.heap.size #[.int .u8 (x0.toNat : Int), .int .u8 (x1.toNat : Int), .int .u8 (x2.toNat : Int), .int .u8 (x3.toNat : Int), .int .u8 (x4.toNat : Int), .int .u8 (x5.toNat : Int), .int .u8 (y0.toNat : Int), .int .u8 (y1.toNat : Int), .int .u8 (y2.toNat : Int), .int .u8 (y3.toNat : Int), .int .u8 (y4.toNat : Int), .int .u8 (y5.toNat : Int), .int .u16 (IntKind.u16.wrap (IntKind.u16.wrap (IntKind.u16.wrap (z0.toNat : Int) * 256) + IntKind.u16.wrap (z1.toNat : Int))), .slice (some ⟨gg, 0, none⟩) n cc]) := by
  have hv := getV_lt [z0, z1]
  rw [show [z0, z1].length = 2 from rfl, show 2 ^ (8 * 2) = 65536 from rfl] at hv
  refine ⟨_, rfl, ⟨some ⟨gg, 0, none⟩, cc, ?_, ⟨rfl, rfl, hv⟩, ?_, ?_, hcp.2, fun h => by cases h⟩, below_setRow hBl (Nat.le_refl _) _⟩
  · rw [kind_of]
    simp only [frC]
    rw [hbn]
    rfl
  · refine Rd.wide (hR.keep fun p h1 h2 => World.cell?_of_block (setRow_other v _ _ _ (by omega))) (by omega) (by simp; omega)
  · simp only
    rw [hbn]
    exact hcp.1

set_option maxRecDepth 100000 in
set_option maxHeartbeats 1000000 in
theorem refparse_fits (l b : List UInt8) (x0  x1  x2  x3  x4  x5 y0  y1  y2  y3  y4  y5 z0 z1 : UInt8) (n : Nat) (w : World) (hl1 : 14 ≤ l.length) (hl2 : l.length ≤ 214) (hbn : b.length = n) (hn : n ≤ 200)
    (s1 : (⟨l.toArray⟩ : ByteArray).extract 0 6 = ⟨#[x0, x1, x2, x3, x4, x5]⟩) (s2 : (⟨l.toArray⟩ : ByteArray).extract 6 12 = ⟨#[y0, y1, y2, y3, y4, y5]⟩) (s3 : (⟨l.toArray⟩ : ByteArray).extract 14 l.length = ⟨b.toArray⟩)
    (i12 : ∀ hh, ((⟨l.toArray⟩ : ByteArray)[12]'hh).toNat = z0.toNat) (i13 : ∀ hh, ((⟨l.toArray⟩ : ByteArray)[13]'hh).toNat = z1.toNat) :
    Calls Try.prog 14 #[txt l] w (ParsePost w (⟨[x0, x1, x2, x3, x4, x5], [y0, y1, y2, y3, y4, y5], getV [z0, z1], b⟩, 0)) := by
  have hS0 : Hid (Sx w.heap.size w (w.alloc (.cells #[.int .u8 0, .int .u8 0, .int .u8 0, .int .u8 0, .int .u8 0, .int .u8 0, .int .u8 0, .int .u8 0, .int .u8 0, .int .u8 0, .int .u8 0, .int .u8 0, .int .u16 0, .slice none 0 0] 27))) := ⟨(Below.refl _ _).alloc (Nat.le_refl _) _, _, _, heap_alloc_new w _, rfl⟩
  have k0 : ∀ w', Sx w.heap.size w w' → w'.cell? ⟨w.heap.size, 0, none⟩ = some (oldv w' w.heap.size 0) := fun w' h => h.cell 0 (by omega)
  have k1 : ∀ w', Sx w.heap.size w w' → w'.cell? ⟨w.heap.size, 1, none⟩ = some (oldv w' w.heap.size 1) := fun w' h => h.cell 1 (by omega)
  have k2 : ∀ w', Sx w.heap.size w w' → w'.cell? ⟨w.heap.size, 2, none⟩ = some (oldv w' w.heap.size 2) := fun w' h => h.cell 2 (by omega)
  have k3 : ∀ w', Sx w.heap.size w w' → w'.cell? ⟨w.heap.size, 3, none⟩ = some (oldv w' w.heap.size 3) := fun w' h => h.cell 3 (by omega)
  have k4 : ∀ w', Sx w.heap.size w w' → w'.cell? ⟨w.heap.size, 4, none⟩ = some (oldv w' w.heap.size 4) := fun w' h => h.cell 4 (by omega)
  have k5 : ∀ w', Sx w.heap.size w w' → w'.cell? ⟨w.heap.size, 5, none⟩ = some (oldv w' w.heap.size 5) := fun w' h => h.cell 5 (by omega)
  have k6 : ∀ w', Sx w.heap.size w w' → w'.cell? ⟨w.heap.size, 6, none⟩ = some (oldv w' w.heap.size 6) := fun w' h => h.cell 6 (by omega)
  have k7 : ∀ w', Sx w.heap.size w w' → w'.cell? ⟨w.heap.size, 7, none⟩ = some (oldv w' w.heap.size 7) := fun w' h => h.cell 7 (by omega)
  have k8 : ∀ w', Sx w.heap.size w w' → w'.cell? ⟨w.heap.size, 8, none⟩ = some (oldv w' w.heap.size 8) := fun w' h => h.cell 8 (by omega)
  have k9 : ∀ w', Sx w.heap.size w w' → w'.cell? ⟨w.heap.size, 9, none⟩ = some (oldv w' w.heap.size 9) := fun w' h => h.cell 9 (by omega)
  have k10 : ∀ w', Sx w.heap.size w w' → w'.cell? ⟨w.heap.size, 10, none⟩ = some (oldv w' w.heap.size 10) := fun w' h => h.cell 10 (by omega)
  have k11 : ∀ w', Sx w.heap.size w w' → w'.cell? ⟨w.heap.size, 11, none⟩ = some (oldv w' w.heap.size 11) := fun w' h => h.cell 11 (by omega)
  have k12 : ∀ w', Sx w.heap.size w w' → w'.cell? ⟨w.heap.size, 12, none⟩ = some (oldv w' w.heap.size 12) := fun w' h => h.cell 12 (by omega)
  have k13 : ∀ w', Sx w.heap.size w w' → w'.cell? ⟨w.heap.size, 13, none⟩ = some (oldv w' w.heap.size 13) := fun w' h => h.cell 13 (by omega)
  have kf : ∀ w' o, Sx w.heap.size w w' → w'.frozen? ⟨w.heap.size, o, none⟩ = false := fun w' o h => h.free o
  have kb := fun w : World => run_bytes w b n hbn
  have HBN := Lib.hid hbn
  have b1 : (6 : Int) ≤ (l.length : Int) := by omega
  have b2 : (12 : Int) ≤ (l.length : Int) := by omega
  have b3 : (14 : Int) ≤ (l.length : Int) := by omega
  have b4 : (12 : Int) < (l.length : Int) := by omega
  have b5 : (13 : Int) < (l.length : Int) := by omega
  have b6 : 12 < l.length := by omega
  have b7 : 13 < l.length := by omega
  clear hbn
  go_enter Try.func14, Try.ntmps14
  go_wp2_with fail
  generalize w.alloc (.cells #[.int .u8 0, .int .u8 0, .int .u8 0, .int .u8 0, .int .u8 0, .int .u8 0, .int .u8 0, .int .u8 0, .int .u8 0, .int .u8 0, .int .u8 0, .int .u8 0, .int .u16 0, .slice none 0 0] 27) = w0 at hS0 ⊢
  have hS : Sx w.heap.size w w0 := hS0
  clear hS0
  refine wp_region_held_drew (S := fun w' => Sx w.heap.size w w') (by kernel_rfl) (Sx.drew hS) (fun hHeld => ?_)
  have hHeld : Sx w.heap.size w w0.drew := hHeld
  generalize w0.drew = wd at hHeld ⊢
  clear hS
  repeat (first | (refine wpAnyH_take (i := 0) (oi := ?_) (v := ?_) (by simp only [List.getElem?_toArray, List.getElem?_cons_zero]; rfl) (by kernel_rfl) (by decide +kernel) (by decide +kernel) (by exact fun _ _ _ h => h) (Or.inl ⟨by rfl, ?_⟩) (by assumption) ?_; rotate_left; (focus (intro w hSw; go_simp; (try with_reducible rfl); done)); (try simp only [Act.put, List.setIfInBounds_toArray, List.set_cons_zero, List.set_cons_succ])) | (refine wpAnyH_take (i := 1) (oi := ?_) (v := ?_) (by simp only [List.getElem?_toArray, List.getElem?_cons_zero, List.getElem?_cons_succ]; rfl) (by kernel_rfl) (by decide +kernel) (by decide +kernel) (by exact fun _ _ _ h => h) (Or.inl ⟨by rfl, ?_⟩) (by assumption) ?_; rotate_left; (focus (intro w hSw; go_simp; (try with_reducible rfl); done)); (try simp only [Act.put, List.setIfInBounds_toArray, List.set_cons_zero, List.set_cons_succ])) | (refine wpAnyH_take (i := 3) (oi := ?_) (v := ?_) (by simp only [List.getElem?_toArray, List.getElem?_cons_zero, List.getElem?_cons_succ]; rfl) (by kernel_rfl) (by decide +kernel) (by decide +kernel) (by exact fun _ _ _ h => h) (Or.inl ⟨by rfl, ?_⟩) (by assumption) ?_; rotate_left; (focus (intro w hSw; go_simp; (try with_reducible rfl); done)); (try simp only [Act.put, List.setIfInBounds_toArray, List.set_cons_zero, List.set_cons_succ])) | (refine wpAnyH_take (i := 4) (oi := ?_) (v := ?_) (by simp only [List.getElem?_toArray, List.getElem?_cons_zero, List.getElem?_cons_succ]; rfl) (by kernel_rfl) (by decide +kernel) (by decide +kernel) (by exact fun _ _ _ h => h) (Or.inl ⟨by rfl, ?_⟩) (by assumption) ?_; rotate_left; (focus (intro w hSw; go_simp; (try with_reducible rfl); done)); (try simp only [Act.put, List.setIfInBounds_toArray, List.set_cons_zero, List.set_cons_succ])) | (refine wpAnyH_take (i := 6) (oi := ?_) (v := ?_) (by simp only [List.getElem?_toArray, List.getElem?_cons_zero, List.getElem?_cons_succ]; rfl) (by kernel_rfl) (by decide +kernel) (by decide +kernel) (by exact fun _ _ _ h => h) (Or.inl ⟨by rfl, ?_⟩) (by assumption) ?_; rotate_left; (focus (intro w hSw; go_simp; (try with_reducible rfl); done)); (try simp only [Act.put, List.setIfInBounds_toArray, List.set_cons_zero, List.set_cons_succ])) | (refine wpAnyH_take (i := 7) (oi := ?_) (v := ?_) (by simp only [List.getElem?_toArray, List.getElem?_cons_zero, List.getElem?_cons_succ]; rfl) (by kernel_rfl) (by decide +kernel) (by decide +kernel) (by exact fun _ _ _ h => h) (Or.inl ⟨by rfl, ?_⟩) (by assumption) ?_; rotate_left; (focus (intro w hSw; go_simp; (try with_reducible rfl); done)); (try simp only [Act.put, List.setIfInBounds_toArray, List.set_cons_zero, List.set_cons_succ])) | (refine wpAnyH_take (i := 8) (oi := ?_) (v := ?_) (by simp only [List.getElem?_toArray, List.getElem?_cons_zero, List.getElem?_cons_succ]; rfl) (by kernel_rfl) (by decide +kernel) (by decide +kernel) (by exact fun _ _ _ h => h) (Or.inl ⟨by rfl, ?_⟩) (by assumption) ?_; rotate_left; (focus (intro w hSw; go_simp; (try with_reducible rfl); done)); (try simp only [Act.put, List.setIfInBounds_toArray, List.set_cons_zero, List.set_cons_succ])) | (refine wpAnyH_take (i := 9) (oi := ?_) (v := ?_) (by simp only [List.getElem?_toArray, List.getElem?_cons_zero, List.getElem?_cons_succ]; rfl) (by kernel_rfl) (by decide +kernel) (by decide +kernel) (by exact fun _ _ _ h => h) (Or.inl ⟨by rfl, ?_⟩) (by assumption) ?_; rotate_left; (focus (intro w hSw; go_simp; (try with_reducible rfl); done)); (try simp only [Act.put, List.setIfInBounds_toArray, List.set_cons_zero, List.set_cons_succ])) | (refine wpAnyH_take (i := 10) (oi := ?_) (v := ?_) (by simp only [List.getElem?_toArray, List.getElem?_cons_zero, List.getElem?_cons_succ]; rfl) (by kernel_rfl) (by decide +kernel) (by decide +kernel) (by exact fun _ _ _ h => h) (Or.inl ⟨by rfl, ?_⟩) (by assumption) ?_; rotate_left; (focus (intro w hSw; go_simp; (try with_reducible rfl); done)); (try simp only [Act.put, List.setIfInBounds_toArray, List.set_cons_zero, List.set_cons_succ])) | (refine wpAnyH_take (i := 11) (oi := ?_) (v := ?_) (by simp only [List.getElem?_toArray, List.getElem?_cons_zero, List.getElem?_cons_succ]; rfl) (by kernel_rfl) (by decide +kernel) (by decide +kernel) (by exact fun _ _ _ h => h) (Or.inl ⟨by rfl, ?_⟩) (by assumption) ?_; rotate_left; (focus (intro w hSw; go_simp; (try with_reducible rfl); done)); (try simp only [Act.put, List.setIfInBounds_toArray, List.set_cons_zero, List.set_cons_succ])) | (refine wpAnyH_take (i := 12) (oi := ?_) (v := ?_) (by simp only [List.getElem?_toArray, List.getElem?_cons_zero, List.getElem?_cons_succ]; rfl) (by kernel_rfl) (by decide +kernel) (by decide +kernel) (by exact fun _ _ _ h => h) (Or.inl ⟨by rfl, ?_⟩) (by assumption) ?_; rotate_left; (focus (intro w hSw; go_simp; (try with_reducible rfl); done)); (try simp only [Act.put, List.setIfInBounds_toArray, List.set_cons_zero, List.set_cons_succ])) | (refine wpAnyH_take (i := 13) (oi := ?_) (v := ?_) (by simp only [List.getElem?_toArray, List.getElem?_cons_zero, List.getElem?_cons_succ]; rfl) (by kernel_rfl) (by decide +kernel) (by decide +kernel) (by exact fun _ _ _ h => h) (Or.inl ⟨by rfl, ?_⟩) (by assumption) ?_; rotate_left; (focus (intro w hSw; go_simp; (try with_reducible rfl); done)); (try simp only [Act.put, List.setIfInBounds_toArray, List.set_cons_zero, List.set_cons_succ])) | (refine wpAnyH_take (i := 14) (oi := ?_) (v := ?_) (by simp only [List.getElem?_toArray, List.getElem?_cons_zero, List.getElem?_cons_succ]; rfl) (by kernel_rfl) (by decide +kernel) (by decide +kernel) (by exact fun _ _ _ h => h) (Or.inl ⟨by rfl, ?_⟩) (by assumption) ?_; rotate_left; (focus (intro w hSw; go_simp; (try with_reducible rfl); done)); (try simp only [Act.put, List.setIfInBounds_toArray, List.set_cons_zero, List.set_cons_succ])) | (refine wpAnyH_take (i := 15) (oi := ?_) (v := ?_) (by simp only [List.getElem?_toArray, List.getElem?_cons_zero, List.getElem?_cons_succ]; rfl) (by kernel_rfl) (by decide +kernel) (by decide +kernel) (by exact fun _ _ _ h => h) (Or.inl ⟨by rfl, ?_⟩) (by assumption) ?_; rotate_left; (focus (intro w hSw; go_simp; (try with_reducible rfl); done)); (try simp only [Act.put, List.setIfInBounds_toArray, List.set_cons_zero, List.set_cons_succ])))
  refine wpAnyH_ready (rs := [2, 16]) (by decide +kernel) (by simp) ?_
  refine AllReadyH.cons (o := ?_) (by simp only [List.getElem?_toArray, List.getElem?_cons_zero, List.getElem?_cons_succ]; rfl) (fun K hK => ?_) ?_
  · go_simp
    refine (ascard_lit _ _ _ _ _ _ _).mono ?_
    rintro e v1 ⟨rfl, hb1⟩
    (try go_wp2_with fail)
    refine hK.out _ _ (Sx.below hHeld hb1) (fun hNew => ?_)
    clear hK K hHeld
    have hHeld := hNew
    clear hNew
    (try simp only [Act.put, List.setIfInBounds_toArray, List.set_cons_zero, List.set_cons_succ])
    refine wpAnyH_ready (rs := [5, 16]) (by decide +kernel) (by simp) ?_
    refine AllReadyH.cons (o := ?_) (by simp only [List.getElem?_toArray, List.getElem?_cons_zero, List.getElem?_cons_succ]; rfl) (fun K hK => ?_) ?_
    · go_simp
      refine (ascard_lit _ _ _ _ _ _ _).mono ?_
      rintro e v2 ⟨rfl, hb2⟩
      (try go_wp2_with fail)
      refine hK.out _ _ (Sx.below hHeld hb2) (fun hNew => ?_)
      clear hK K hHeld
      have hHeld := hNew
      clear hNew
      (try simp only [Act.put, List.setIfInBounds_toArray, List.set_cons_zero, List.set_cons_succ])
      refine wpAnyH_ready (rs := [16]) (by decide +kernel) (by simp) ?_
      refine AllReadyH.cons (o := ?_) (by simp only [List.getElem?_toArray, List.getElem?_cons_zero, List.getElem?_cons_succ]; rfl) (fun K hK => ?_) ?_
      · go_simp
        have hR3 := bw_rd (v2) b
        have hq3 : (v2).heap.size < (bwB (v2) b).heap.size := by rw [bw_size]; exact Nat.lt_succ_self _
        have hl3 : w.heap.size < (v2).heap.size := hHeld.lt
        have hcp := cap_ok (v2) n (by omega)
        refine hK.out _ _ (Sx.bytes hHeld b) (fun hNew => ?_)
        clear hK K hHeld
        have hHeld := hNew
        clear hNew
        (try simp only [Act.put, List.setIfInBounds_toArray, List.set_cons_zero, List.set_cons_succ])
        generalize hgg : (v2).heap.size = gg at hR3 hq3 hl3 ⊢
        generalize hcc : capB (v2) n = cc at hcp ⊢
        clear hgg hcc
        have HL := Lib.hid hl3
        generalize hv3 : bwB (v2) b = v3 at hR3 hq3 hHeld ⊢
        have HR := Lib.hid hR3
        have HQ := Lib.hid hq3
        clear hR3 hq3
        (refine wpAnyH_take (i := 17) (oi := ?_) (v := ?_) (by simp only [List.getElem?_toArray, List.getElem?_cons_zero, List.getElem?_cons_succ]; rfl) (by kernel_rfl) (by decide +kernel) (by decide +kernel) (by exact fun _ _ _ h => h) (Or.inl ⟨by rfl, ?_⟩) (by assumption) ?_; rotate_left; (focus (intro w hSw; go_simp; (try with_reducible rfl); done)); (try simp only [Act.put, List.setIfInBounds_toArray, List.set_cons_zero, List.set_cons_succ]))
        refine wpAnyH_ready (rs := [18]) (by decide +kernel) (by simp) ?_
        refine AllReadyH.cons (o := ?_) (by simp only [List.getElem?_toArray, List.getElem?_cons_zero, List.getElem?_cons_succ]; rfl) (fun K hK => ?_) AllReadyH.nil
        rw [if_pos (by rfl)]
        obtain ⟨hBl, old, tt, hg, hs⟩ := hHeld
        refine wp_store_row _ _ _ rfl w.heap.size #[.int .u8 (x0.toNat : Int), .int .u8 (x1.toNat : Int), .int .u8 (x2.toNat : Int), .int .u8 (x3.toNat : Int), .int .u8 (x4.toNat : Int), .int .u8 (x5.toNat : Int), .int .u8 (y0.toNat : Int), .int .u8 (y1.toNat : Int), .int .u8 (y2.toNat : Int), .int .u8 (y3.toNat : Int), .int .u8 (y4.toNat : Int), .int .u8 (y5.toNat : Int), .int .u16 (IntKind.u16.wrap (IntKind.u16.wrap (IntKind.u16.wrap (z0.toNat : Int) * 256) + IntKind.u16.wrap (z1.toNat : Int))), .slice (some ⟨gg, 0, none⟩) n cc] rfl rfl tt old hg (by kernel_rfl) hs (by kernel_rfl) ?_
        refine hK.out _ _ ⟨below_setRow hBl (Nat.le_refl _) _, _, tt, setRow_heap _ _ _ _ _ _ hg, rfl⟩ (fun hHeld => ?_)
        (try simp only [Act.put])
        (refine wpAnyH_take (i := 19) (oi := ?_) (v := ?_) (by simp only [List.getElem?_toArray, List.getElem?_cons_zero, List.getElem?_cons_succ]; rfl) (by kernel_rfl) (by decide +kernel) (by decide +kernel) (by exact fun _ _ _ h => h) (Or.inl ⟨by rfl, ?_⟩) (by assumption) ?_; rotate_left; (focus (intro w hSw; go_simp; (try with_reducible rfl); done)); (try simp only [Act.put, List.setIfInBounds_toArray, List.set_cons_zero, List.set_cons_succ]))
        refine wpAnyH_done (by decide +kernel) ?_ _
        have HF := Lib.hid (fin_fr w _ gg n cc b x0 x1 x2 x3 x4 x5 y0 y1 y2 y3 y4 y5 z0 z1 hBl HR.out HL.out HQ.out HBN.out hcp)
        have HG := Lib.hid hg
        clear hg hs hBl
        go_wp2
        (try simp only [Exit.inBlock, Exit.then])
        refine ret_row (g := w.heap.size) (cs := #[.int .u8 (x0.toNat : Int), .int .u8 (x1.toNat : Int), .int .u8 (x2.toNat : Int), .int .u8 (x3.toNat : Int), .int .u8 (x4.toNat : Int), .int .u8 (x5.toNat : Int), .int .u8 (y0.toNat : Int), .int .u8 (y1.toNat : Int), .int .u8 (y2.toNat : Int), .int .u8 (y3.toNat : Int), .int .u8 (y4.toNat : Int), .int .u8 (y5.toNat : Int), .int .u16 (IntKind.u16.wrap (IntKind.u16.wrap (IntKind.u16.wrap (z0.toNat : Int) * 256) + IntKind.u16.wrap (z1.toNat : Int))), .slice (some ⟨gg, 0, none⟩) n cc]) rfl rfl (load_fr (setRow_heap _ _ _ _ _ _ HG.out) rfl) rfl ?_
        exact HF.out
      exact AllReadyH.nil
    refine AllReadyH.cons (o := ?_) (by simp only [List.getElem?_toArray, List.getElem?_cons_zero, List.getElem?_cons_succ]; rfl) (fun K hK => ?_) ?_
    · go_simp
      have hR2 := bw_rd (v1) b
      have hq2 : (v1).heap.size < (bwB (v1) b).heap.size := by rw [bw_size]; exact Nat.lt_succ_self _
      have hl2 : w.heap.size < (v1).heap.size := hHeld.lt
      have hcp := cap_ok (v1) n (by omega)
      refine hK.out _ _ (Sx.bytes hHeld b) (fun hNew => ?_)
      clear hK K hHeld
      have hHeld := hNew
      clear hNew
      (try simp only [Act.put, List.setIfInBounds_toArray, List.set_cons_zero, List.set_cons_succ])
      generalize hgg : (v1).heap.size = gg at hR2 hq2 hl2 ⊢
      generalize hcc : capB (v1) n = cc at hcp ⊢
      clear hgg hcc
      have HL := Lib.hid hl2
      generalize hv2 : bwB (v1) b = v2 at hR2 hq2 hHeld ⊢
      refine wpAnyH_ready (rs := [5]) (by decide +kernel) (by simp) ?_
      refine AllReadyH.cons (o := ?_) (by simp only [List.getElem?_toArray, List.getElem?_cons_zero, List.getElem?_cons_succ]; rfl) (fun K hK => ?_) ?_
      · go_simp
        refine (ascard_lit _ _ _ _ _ _ _).mono ?_
        rintro e v3 ⟨rfl, hb3⟩
        (try go_wp2_with fail)
        have hR3 := hR2.below hb3 (by omega)
        have hq3 : gg < v3.heap.size := Nat.lt_of_lt_of_le hq2 hb3.size
        refine hK.out _ _ (Sx.below hHeld hb3) (fun hNew => ?_)
        clear hK K hHeld
        have hHeld := hNew
        clear hNew
        (try simp only [Act.put, List.setIfInBounds_toArray, List.set_cons_zero, List.set_cons_succ])
        have HR := Lib.hid hR3
        have HQ := Lib.hid hq3
        clear hR3 hq3
        (refine wpAnyH_take (i := 17) (oi := ?_) (v := ?_) (by simp only [List.getElem?_toArray, List.getElem?_cons_zero, List.getElem?_cons_succ]; rfl) (by kernel_rfl) (by decide +kernel) (by decide +kernel) (by exact fun _ _ _ h => h) (Or.inl ⟨by rfl, ?_⟩) (by assumption) ?_; rotate_left; (focus (intro w hSw; go_simp; (try with_reducible rfl); done)); (try simp only [Act.put, List.setIfInBounds_toArray, List.set_cons_zero, List.set_cons_succ]))
        refine wpAnyH_ready (rs := [18]) (by decide +kernel) (by simp) ?_
        refine AllReadyH.cons (o := ?_) (by simp only [List.getElem?_toArray, List.getElem?_cons_zero, List.getElem?_cons_succ]; rfl) (fun K hK => ?_) AllReadyH.nil
        rw [if_pos (by rfl)]
        obtain ⟨hBl, old, tt, hg, hs⟩ := hHeld
        refine wp_store_row _ _ _ rfl w.heap.size #[.int .u8 (x0.toNat : Int), .int .u8 (x1.toNat : Int), .int .u8 (x2.toNat : Int), .int .u8 (x3.toNat : Int), .int .u8 (x4.toNat : Int), .int .u8 (x5.toNat : Int), .int .u8 (y0.toNat : Int), .int .u8 (y1.toNat : Int), .int .u8 (y2.toNat : Int), .int .u8 (y3.toNat : Int), .int .u8 (y4.toNat : Int), .int .u8 (y5.toNat : Int), .int .u16 (IntKind.u16.wrap (IntKind.u16.wrap (IntKind.u16.wrap (z0.toNat : Int) * 256) + IntKind.u16.wrap (z1.toNat : Int))), .slice (some ⟨gg, 0, none⟩) n cc] rfl rfl tt old hg (by kernel_rfl) hs (by kernel_rfl) ?_
        refine hK.out _ _ ⟨below_setRow hBl (Nat.le_refl _) _, _, tt, setRow_heap _ _ _ _ _ _ hg, rfl⟩ (fun hHeld => ?_)
        (try simp only [Act.put])
        (refine wpAnyH_take (i := 19) (oi := ?_) (v := ?_) (by simp only [List.getElem?_toArray, List.getElem?_cons_zero, List.getElem?_cons_succ]; rfl) (by kernel_rfl) (by decide +kernel) (by decide +kernel) (by exact fun _ _ _ h => h) (Or.inl ⟨by rfl, ?_⟩) (by assumption) ?_; rotate_left; (focus (intro w hSw; go_simp; (try with_reducible rfl); done)); (try simp only [Act.put, List.setIfInBounds_toArray, List.set_cons_zero, List.set_cons_succ]))
        refine wpAnyH_done (by decide +kernel) ?_ _
        have HF := Lib.hid (fin_fr w _ gg n cc b x0 x1 x2 x3 x4 x5 y0 y1 y2 y3 y4 y5 z0 z1 hBl HR.out HL.out HQ.out HBN.out hcp)
        have HG := Lib.hid hg
        clear hg hs hBl
        go_wp2
        (try simp only [Exit.inBlock, Exit.then])
        refine ret_row (g := w.heap.size) (cs := #[.int .u8 (x0.toNat : Int), .int .u8 (x1.toNat : Int), .int .u8 (x2.toNat : Int), .int .u8 (x3.toNat : Int), .int .u8 (x4.toNat : Int), .int .u8 (x5.toNat : Int), .int .u8 (y0.toNat : Int), .int .u8 (y1.toNat : Int), .int .u8 (y2.toNat : Int), .int .u8 (y3.toNat : Int), .int .u8 (y4.toNat : Int), .int .u8 (y5.toNat : Int), .int .u16 (IntKind.u16.wrap (IntKind.u16.wrap (IntKind.u16.wrap (z0.toNat : Int) * 256) + IntKind.u16.wrap (z1.toNat : Int))), .slice (some ⟨gg, 0, none⟩) n cc]) rfl rfl (load_fr (setRow_heap _ _ _ _ _ _ HG.out) rfl) rfl ?_
        exact HF.out
      exact AllReadyH.nil
    exact AllReadyH.nil
  refine AllReadyH.cons (o := ?_) (by simp only [List.getElem?_toArray, List.getElem?_cons_zero, List.getElem?_cons_succ]; rfl) (fun K hK => ?_) ?_
  · go_simp
    have hR1 := bw_rd wd b
    have hq1 : wd.heap.size < (bwB wd b).heap.size := by rw [bw_size]; exact Nat.lt_succ_self _
    have hl1 : w.heap.size < wd.heap.size := hHeld.lt
    have hcp := cap_ok wd n (by omega)
    refine hK.out _ _ (Sx.bytes hHeld b) (fun hNew => ?_)
    clear hK K hHeld
    have hHeld := hNew
    clear hNew
    (try simp only [Act.put, List.setIfInBounds_toArray, List.set_cons_zero, List.set_cons_succ])
    generalize hgg : wd.heap.size = gg at hR1 hq1 hl1 ⊢
    generalize hcc : capB wd n = cc at hcp ⊢
    clear hgg hcc
    have HL := Lib.hid hl1
    generalize hv1 : bwB wd b = v1 at hR1 hq1 hHeld ⊢
    refine wpAnyH_ready (rs := [2]) (by decide +kernel) (by simp) ?_
    refine AllReadyH.cons (o := ?_) (by simp only [List.getElem?_toArray, List.getElem?_cons_zero, List.getElem?_cons_succ]; rfl) (fun K hK => ?_) ?_
    · go_simp
      refine (ascard_lit _ _ _ _ _ _ _).mono ?_
      rintro e v2 ⟨rfl, hb2⟩
      (try go_wp2_with fail)
      have hR2 := hR1.below hb2 (by omega)
      have hq2 : gg < v2.heap.size := Nat.lt_of_lt_of_le hq1 hb2.size
      refine hK.out _ _ (Sx.below hHeld hb2) (fun hNew => ?_)
      clear hK K hHeld
      have hHeld := hNew
      clear hNew
      (try simp only [Act.put, List.setIfInBounds_toArray, List.set_cons_zero, List.set_cons_succ])
      refine wpAnyH_ready (rs := [5]) (by decide +kernel) (by simp) ?_
      refine AllReadyH.cons (o := ?_) (by simp only [List.getElem?_toArray, List.getElem?_cons_zero, List.getElem?_cons_succ]; rfl) (fun K hK => ?_) ?_
      · go_simp
        refine (ascard_lit _ _ _ _ _ _ _).mono ?_
        rintro e v3 ⟨rfl, hb3⟩
        (try go_wp2_with fail)
        have hR3 := hR2.below hb3 (by have := hq2; omega)
        have hq3 : gg < v3.heap.size := Nat.lt_of_lt_of_le hq2 hb3.size
        refine hK.out _ _ (Sx.below hHeld hb3) (fun hNew => ?_)
        clear hK K hHeld
        have hHeld := hNew
        clear hNew
        (try simp only [Act.put, List.setIfInBounds_toArray, List.set_cons_zero, List.set_cons_succ])
        have HR := Lib.hid hR3
        have HQ := Lib.hid hq3
        clear hR3 hq3
        (refine wpAnyH_take (i := 17) (oi := ?_) (v := ?_) (by simp only [List.getElem?_toArray, List.getElem?_cons_zero, List.getElem?_cons_succ]; rfl) (by kernel_rfl) (by decide +kernel) (by decide +kernel) (by exact fun _ _ _ h => h) (Or.inl ⟨by rfl, ?_⟩) (by assumption) ?_; rotate_left; (focus (intro w hSw; go_simp; (try with_reducible rfl); done)); (try simp only [Act.put, List.setIfInBounds_toArray, List.set_cons_zero, List.set_cons_succ]))
        refine wpAnyH_ready (rs := [18]) (by decide +kernel) (by simp) ?_
        refine AllReadyH.cons (o := ?_) (by simp only [List.getElem?_toArray, List.getElem?_cons_zero, List.getElem?_cons_succ]; rfl) (fun K hK => ?_) AllReadyH.nil
        rw [if_pos (by rfl)]
        obtain ⟨hBl, old, tt, hg, hs⟩ := hHeld
        refine wp_store_row _ _ _ rfl w.heap.size #[.int .u8 (x0.toNat : Int), .int .u8 (x1.toNat : Int), .int .u8 (x2.toNat : Int), .int .u8 (x3.toNat : Int), .int .u8 (x4.toNat : Int), .int .u8 (x5.toNat : Int), .int .u8 (y0.toNat : Int), .int .u8 (y1.toNat : Int), .int .u8 (y2.toNat : Int), .int .u8 (y3.toNat : Int), .int .u8 (y4.toNat : Int), .int .u8 (y5.toNat : Int), .int .u16 (IntKind.u16.wrap (IntKind.u16.wrap (IntKind.u16.wrap (z0.toNat : Int) * 256) + IntKind.u16.wrap (z1.toNat : Int))), .slice (some ⟨gg, 0, none⟩) n cc] rfl rfl tt old hg (by kernel_rfl) hs (by kernel_rfl) ?_
        refine hK.out _ _ ⟨below_setRow hBl (Nat.le_refl _) _, _, tt, setRow_heap _ _ _ _ _ _ hg, rfl⟩ (fun hHeld => ?_)
        (try simp only [Act.put])
        (refine wpAnyH_take (i := 19) (oi := ?_) (v := ?_) (by simp only [List.getElem?_toArray, List.getElem?_cons_zero, List.getElem?_cons_succ]; rfl) (by kernel_rfl) (by decide +kernel) (by decide +kernel) (by exact fun _ _ _ h => h) (Or.inl ⟨by rfl, ?_⟩) (by assumption) ?_; rotate_left; (focus (intro w hSw; go_simp; (try with_reducible rfl); done)); (try simp only [Act.put, List.setIfInBounds_toArray, List.set_cons_zero, List.set_cons_succ]))
        refine wpAnyH_done (by decide +kernel) ?_ _
        have HF := Lib.hid (fin_fr w _ gg n cc b x0 x1 x2 x3 x4 x5 y0 y1 y2 y3 y4 y5 z0 z1 hBl HR.out HL.out HQ.out HBN.out hcp)
        have HG := Lib.hid hg
        clear hg hs hBl
        go_wp2
        (try simp only [Exit.inBlock, Exit.then])
        refine ret_row (g := w.heap.size) (cs := #[.int .u8 (x0.toNat : Int), .int .u8 (x1.toNat : Int), .int .u8 (x2.toNat : Int), .int .u8 (x3.toNat : Int), .int .u8 (x4.toNat : Int), .int .u8 (x5.toNat : Int), .int .u8 (y0.toNat : Int), .int .u8 (y1.toNat : Int), .int .u8 (y2.toNat : Int), .int .u8 (y3.toNat : Int), .int .u8 (y4.toNat : Int), .int .u8 (y5.toNat : Int), .int .u16 (IntKind.u16.wrap (IntKind.u16.wrap (IntKind.u16.wrap (z0.toNat : Int) * 256) + IntKind.u16.wrap (z1.toNat : Int))), .slice (some ⟨gg, 0, none⟩) n cc]) rfl rfl (load_fr (setRow_heap _ _ _ _ _ _ HG.out) rfl) rfl ?_
        exact HF.out
      exact AllReadyH.nil
    exact AllReadyH.nil
  exact AllReadyH.nil

/-- caravelref05.Parse, all of it -/
theorem refparse_any (l : List UInt8) (w : World) (hl : l.length ≤ 1000000000) :
    Calls Try.prog 14 #[txt l] w (ParsePost w (parseS l)) := by
  by_cases h1 : 214 < l.length
  · have e : parseS l = (Fr.zero, 4) := by unfold parseS; rw [if_pos h1]
    rw [e]
    exact refparse_long l w h1 (by omega)
  · by_cases h2 : l.length < 14
    · have e : parseS l = (Fr.zero, 6) := by unfold parseS; rw [if_neg h1, if_pos h2]
      rw [e]
      exact refparse_cut l w h2
    · have e : parseS l = (frOf l, 0) := by unfold parseS; rw [if_neg h1, if_neg h2]
      rw [e]
      obtain ⟨x0, x1, x2, x3, x4, x5, y0, y1, y2, y3, y4, y5, z0, z1, b, rfl⟩ := fourteen l (by omega)
      have hl : (x0 :: x1 :: x2 :: x3 :: x4 :: x5 :: y0 :: y1 :: y2 :: y3 :: y4 :: y5 :: z0 :: z1 :: b).length = 14 + b.length := by simp; omega
      refine refparse_fits _ b x0 x1 x2 x3 x4 x5 y0 y1 y2 y3 y4 y5 z0 z1 b.length w (by omega) (by omega) rfl (by omega) ?_ ?_ ?_ ?_ ?_
      · exact cut_mid _ 0 6 (by simp) (by omega)
      · exact cut_mid _ 6 12 (by simp) (by omega)
      · rw [cut_mid _ 14 _ (Nat.le_refl _) (by omega)]
        simp
      · intro hh; rfl
      · intro hh; rfl
end Go.Proofs.Ytooepllgefndnaa
