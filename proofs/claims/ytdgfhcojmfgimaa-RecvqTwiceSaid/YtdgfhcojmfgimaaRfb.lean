/-
  The document's blank, New, Window, runs, front of layer 17. Every number of at most a thousand, every list of numbers that can be read.
-/
import Derived.Test.YtdgfhcojmfgimaaRq
import Derived.Laws.AppendOwnNone
import Derived.Maps.AppendAt
namespace Go.Proofs.Ytdgfhcojmfgimaa
open Go.RowKit

theorem info_int1 : (Try.prog.info? 3).map (fun i => (i.zero, i.size, i.bytes)) = some (some (.int .i64 0), 1, 8) := by kernel_rfl
set_option maxRecDepth 100000 in
set_option maxHeartbeats 1000000 in
theorem blank_any (n : Nat) (w : World) (hn : n ≤ 1000) : Calls Try.prog 22 #[.int .i64 (n : Int)] w fun e w' => ∃ v, e = .returned v ∧ w'.ownsRow w.heap.size 3 1 v n (intsV (List.replicate n (-1))) ∧ Below w.heap.size w w' := by
  obtain ⟨i0, hi0, hz0, hz1, hz2⟩ := parts_of info_int1
  go_enter Try.func22, Try.ntmps22
  go_wp2
  go_loopw [3, 4] (fun t3 t4 wr => ∃ k : Nat, k ≤ n ∧ t4 = .int .i64 (k : Int) ∧ Hid (wr.ownsRow w.heap.size 3 1 t3 k (intsV (List.replicate k (-1)))) ∧ Hid (Below w.heap.size w wr)) (fun _ t4 _ => n - (intOf t4).toNat)
  case atStart => exact ⟨0, Nat.zero_le _, rfl, World.ownsRow_nil _ _ _ _, Lib.hid (Below.refl _ _)⟩
  case round =>
    obtain ⟨k, hk, rfl, HOW, HBE⟩ := hrel
    generalize u3 = v3 at HOW ⊢
    by_cases hlt : k < n
    · have HLE : Hid (w.heap.size ≤ wr.heap.size) := HBE.out.size
      go_wp2_with (at_builtin; refine wpList_append_elem rfl _ _ 31 rfl w.heap.size 3 i0 _ 1 8 Try.underlying31 hi0 hz0 hz1 hz2 rfl (by decide) v3 k (intsV (List.replicate k (-1))) rfl (ownk_below HOW.out ((Below.refl _ _).alloc (Nat.le_refl _) _) (Nat.le_refl _)) wr.heap.size 1 #[.int .i64 (-1)] 3 (0, 0) rfl (heap_alloc_new wr _) rfl (fun u hu => by simp at hu; subst hu; rfl) (by unfold maxLen; omega) (by omega) (by have := HLE.out; simp; omega) ?_; intro v6 w6 hown6 hgrow6 _; have HOW6 := Lib.hid hown6; have HGW6 := Lib.hid hgrow6; clear hown6 hgrow6)
      have HB6 : Hid (Below w.heap.size w w6) := (HBE.out.alloc HLE.out _).grown HGW6.out (by have := HLE.out; simp; omega) fun g hg => (HOW.out.lt g hg).1
      have HO6 : Hid (w6.ownsRow w.heap.size 3 1 v6 (k + 1) (intsV (List.replicate (k + 1) (-1)))) := by
        show World.ownsRow _ _ _ _ _ _ _
        rw [List.replicate_succ', intsV_append]
        exact HOW6.out
      clear HOW6 HGW6
      go_wp2
      go_roundw
      case rel => exact ⟨k + 1, by omega, by go_num, HO6, HB6⟩
      case measure => simp [intOf]; omega
    · obtain rfl : k = n := by omega
      go_wp2
      go_ret
      exact ⟨_, rfl, HOW.out, HBE.out⟩
theorem own_rds {w : World} {base n : Nat} {e : TypeId} {A : Option Addr} {c : Nat} {us : List Value} {S : Nat → Prop} (ho : w.ownsRow base e 1 (.slice A n c) n us) (hS : ∀ b, base ≤ b → S b) : RdS w S A us := fun j u hj => by
  obtain ⟨g, o, C, rfl, hb, hg, hC⟩ := Tr.own ho j u hj
  refine ⟨_, rfl, hS g hb, ?_⟩
  rw [Addr.add_mid, cell_of_row _ _ _ _ _ _ hg]
  exact hC
theorem rv_ints_own {w : World} {base n : Nat} {e : TypeId} {v : Value} {l : List Int} {S : Nat → Prop} (ho : w.ownsRow base e 1 v n (intsV l)) (hn : l.length = n) (hS : ∀ b, base ≤ b → S b) : Rv w S v (intsD l) := by
  subst hn
  obtain ⟨A, c, rfl, h1, h2, h3⟩ := ownk_form ho
  exact rv_ints.2 ⟨A, c, rfl, own_rds ho hS, h3, h1, h2⟩
def Zx : Array Value := #[.int .u32 0, .string { data := #[] }, .slice none 0 0, .int .i64 0, .bool false]
theorem refnew_any (n : Int) (w : World) : Calls Try.prog 11 #[.int .u32 n] w fun e w' => ∃ cs : Array Value, e = .returned (.agg cs) ∧ Rvs w' (fun b => w.heap.size ≤ b) cs.toList (rxD (newX n)) ∧ Below w.heap.size w w' := by
  go_enter Try.func11, Try.ntmps11
  go_wp2_with fail
  refine (blank_any 256 _ (by omega)).mono ?_
  rintro e w2 ⟨v2, rfl, ho, hb⟩
  have hz : (w.alloc (.cells Zx 33)).heap.size = w.heap.size + 1 := by simp
  change w2.ownsRow (w.alloc (.cells Zx 33)).heap.size _ _ _ _ _ at ho
  rw [hz] at ho
  obtain ⟨A2, c2, rfl, -, -, -⟩ := ownk_form ho
  have HO := Lib.hid ho
  have HX := Lib.hid (old_below (heap_alloc_new w (.cells Zx 33)) hb (by simp))
  have HB : Hid (Below w.heap.size w w2) := ((Below.refl _ _).alloc (Nat.le_refl _) _).trans (hb.mono (by simp))
  clear ho hb
  go_wp2_with (refine wpList_store_row rfl 33 _ _ rfl w.heap.size #[.int .u32 n, .string { data := #[] }, .slice A2 256 c2, .int .i64 (-1), .bool false] rfl rfl 33 Zx HX.out (by kernel_rfl) rfl (by simp [Value.oneCell']) ?_)
  refine ret_one (g := w.heap.size) rfl rfl (setRow_heap _ _ _ _ _ _ HX.out) Try.underlying33 rfl (by kernel_rfl) rfl ?_
  refine ⟨_, rfl, ?_, below_setRow HB.out (Nat.le_refl _) _⟩
  have hr : Rv (w2.setRow w.heap.size #[.int .u32 n, .string { data := #[] }, .slice A2 256 c2, .int .i64 (-1), .bool false]) (fun b => w.heap.size ≤ b) (.slice A2 256 c2) (intsD (List.replicate 256 (-1))) := by
    have : Rv w2 (fun b => w.heap.size + 1 ≤ b) (.slice A2 256 c2) (intsD (List.replicate 256 (-1))) := rv_ints_own (base := w.heap.size + 1) HO.out List.length_replicate (fun b h => h)
    exact (this.setRow (by omega) _).wide fun b h => by omega
  unfold rxD newX
  simp only [rvs_cons]
  exact ⟨.val rfl, .val rfl, hr, .val rfl, .val rfl, rvs_nil⟩
theorem refwindow_any (x : Rx) (cs : Array Value) (S : Nat → Prop) (w : World) (hr : Rvs w S cs.toList (rxD x)) (hl : x.data.length ≤ 1000) : Calls Try.prog 19 #[.agg cs] w fun e w' => e = .returned (.int .i64 (winX x)) ∧ Below w.heap.size w w' := by
  obtain ⟨v0, v1, v2, v3, v4, hcs⟩ : ∃ v0 v1 v2 v3 v4, cs.toList = [v0, v1, v2, v3, v4] := by
    have := hr.1
    rcases hc : cs.toList with _ | ⟨v0, _ | ⟨v1, _ | ⟨v2, _ | ⟨v3, _ | ⟨v4, _ | ⟨v5, l⟩⟩⟩⟩⟩⟩ <;> rw [hc] at this <;> simp [rxD] at this
    exact ⟨_, _, _, _, _, rfl⟩
  have he : cs = #[v0, v1, v2, v3, v4] := by rw [← Array.toArray_toList (xs := cs), hcs]
  rw [hcs] at hr
  unfold rxD at hr
  simp only [rvs_cons, rv_val] at hr
  obtain ⟨⟨rfl, _⟩, ⟨rfl, _⟩, _, ⟨rfl, _⟩, ⟨rfl, _⟩, _⟩ := hr
  subst he
  have hsz : (⟨x.data.toArray⟩ : ByteArray).size = x.data.length := by simp [ByteArray.size]
  have hd : x.data.length = x.data.length := rfl
  unfold winX txtV
  generalize (⟨x.data.toArray⟩ : ByteArray) = s at hsz ⊢
  generalize x.data.length = n at hsz hl ⊢
  clear hd
  go_enter Try.func19, Try.ntmps19
  go_wp2
  go_ret
  exact ⟨rfl, (Below.refl _ _).alloc (Nat.le_refl _) _⟩
end Go.Proofs.Ytdgfhcojmfgimaa
