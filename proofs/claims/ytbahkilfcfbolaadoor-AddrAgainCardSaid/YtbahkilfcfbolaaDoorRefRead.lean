/-
  The document's own answers for which texts are addresses (caravelref04.numbers, Read, ReadIP, ReadMAC): they are the plain functions of the contracts. Every text of at most a million bytes, in every world in which the table lies.
-/
import Derived.Test.YtbahkilfcfbolaaDoorReadMac
import Derived.Test.YtbahkilfcfbolaaDoorRefWrite
import Derived.Deep.RegionLaw
namespace Go.Proofs.YtbahkilfcfbolaaDoor
open Go.RowKit

/-- one sign more of a text's numbers: behind the numbers there, the last one n -/
def nstep (s : List Nat × Nat) (c : UInt8) : List Nat × Nat := if isD c then (s.1, min (10 * s.2 + (c.toNat - 48)) 99999) else (s.1 ++ [s.2], 0)
/-- the numbers of a text: all but the last, and the last -/
def numsF (l : List UInt8) : List Nat × Nat := l.foldl nstep ([], 0)
theorem nstep_digits (ds : List UInt8) (hd : ∀ c ∈ ds, isD c = true) : ∀ (pre : List Nat) (m : Nat), vf m ds ≤ 99999 → ds.foldl nstep (pre, m) = (pre, vf m ds) := by
  induction ds with
  | nil => intro pre m _; rfl
  | cons c r ih =>
    intro pre m hm
    rw [vf_cons] at hm ⊢
    have h1 := vf_le r (10 * m + (c.toNat - 48))
    rw [List.foldl_cons]
    have e : nstep (pre, m) c = (pre, 10 * m + (c.toNat - 48)) := by
      unfold nstep
      rw [if_pos (hd c (by simp))]
      simp only
      rw [Nat.min_eq_left (by omega)]
    rw [e]
    exact ih (fun x hx => hd x (List.mem_cons_of_mem _ hx)) _ _ hm
theorem nstep_dec (pre : List Nat) (n : Nat) (hn : n ≤ 99999) : (dec n).foldl nstep (pre, 0) = (pre, n) := by
  have h := nstep_digits (dec n) (dec_all n) pre 0 (by rw [vf_dec]; exact hn)
  rw [vf_dec] at h
  exact h
theorem nstep_mark (pre : List Nat) (n : Nat) (c : UInt8) (hc : isD c = false) : nstep (pre, n) c = (pre ++ [n], 0) := by
  unfold nstep
  rw [if_neg (by rw [hc]; decide)]
theorem numsF_ad (x0 x1 x2 x3 : UInt8) (p : Nat) (hp : p < 65536) : numsF (adT [x0, x1, x2, x3] p) = ([x0.toNat, x1.toNat, x2.toNat, x3.toNat], p) := by
  have h0 := x0.toNat_lt
  have h1 := x1.toNat_lt
  have h2 := x2.toNat_lt
  have h3 := x3.toNat_lt
  have e : adT [x0, x1, x2, x3] p = dec x0.toNat ++ (46 :: (dec x1.toNat ++ (46 :: (dec x2.toNat ++ (46 :: (dec x3.toNat ++ (58 :: dec p))))))) := by
    unfold adT ipT
    simp only [List.map_cons, List.map_nil]
    rw [join_two, join_two, join_two, Lib.join_one]
    simp
  rw [e]
  unfold numsF
  rw [List.foldl_append, nstep_dec _ _ (by omega), List.foldl_cons, nstep_mark _ _ _ (by decide), List.foldl_append, nstep_dec _ _ (by omega), List.foldl_cons, nstep_mark _ _ _ (by decide), List.foldl_append, nstep_dec _ _ (by omega), List.foldl_cons, nstep_mark _ _ _ (by decide), List.foldl_append, nstep_dec _ _ (by omega), List.foldl_cons, nstep_mark _ _ _ (by decide), nstep_dec _ _ (by omega)]
  rfl
/-- the numbers as cells -/
def ncells (s : List Nat × Nat) : List Value := (s.1 ++ [s.2]).map fun n : Nat => Value.int .i64 (n : Int)
theorem numsF_take (l : List UInt8) (k : Nat) (hk : k < l.length) : numsF (l.take (k + 1)) = nstep (numsF (l.take k)) l[k] := by
  unfold numsF
  rw [List.take_succ_eq_append_getElem hk, List.foldl_append]
  rfl
theorem numsF_le (l : List UInt8) : (numsF l).1.length ≤ l.length ∧ (numsF l).2 ≤ 99999 := by
  have h : ∀ (l : List UInt8) (s : List Nat × Nat), s.2 ≤ 99999 → (l.foldl nstep s).1.length ≤ s.1.length + l.length ∧ (l.foldl nstep s).2 ≤ 99999 := by
    intro l
    induction l with
    | nil => intro s hs; exact ⟨Nat.le_refl _, hs⟩
    | cons c r ih =>
      intro s hs
      rw [List.foldl_cons]
      have h1 : (nstep s c).1.length ≤ s.1.length + 1 ∧ (nstep s c).2 ≤ 99999 := by
        unfold nstep
        split
        · exact ⟨Nat.le_succ _, Nat.min_le_right _ _⟩
        · exact ⟨by simp, by simp⟩
      have h2 := ih (nstep s c) h1.2
      simp only [List.length_cons]
      omega
  have := h l ([], 0) (by simp)
  rw [List.length_nil, Nat.zero_add] at this
  exact this
theorem info3 : (Tryd.prog.info? 3).map (fun i => (i.zero, i.size, i.bytes)) = some (some (.int .i64 0), 1, 8) := by kernel_rfl
theorem ncells_length (s : List Nat × Nat) : (ncells s).length = s.1.length + 1 := by simp [ncells]
theorem ncells_last (s : List Nat × Nat) : (ncells s)[s.1.length]? = some (.int .i64 (s.2 : Int)) := by simp [ncells]
theorem ncells_init (s : List Nat × Nat) : (ncells s).take s.1.length = s.1.map fun n : Nat => Value.int .i64 (n : Int) := by
  unfold ncells
  rw [← List.map_take, List.take_left]
theorem ncells_one (s : List Nat × Nat) : ∀ u ∈ ncells s, u.oneCell' = true := by
  intro u hu
  obtain ⟨n, _, rfl⟩ := List.mem_map.1 hu
  rfl

set_option maxRecDepth 100000 in
set_option maxHeartbeats 2000000 in
theorem numbers_any (l : List UInt8) (w : World) (hl : l.length ≤ 1000000) :
    Calls Tryd.prog 27 #[txt l] w fun e w' => ∃ v, e = .returned v ∧ w'.ownsRow w.heap.size 3 1 v ((numsF l).1.length + 1) (ncells (numsF l)) ∧ Below w.heap.size w w' := by
  obtain ⟨i0, hi0, hz0, hz1, hz2⟩ := info_parts info3
  go_enter Tryd.func27, Tryd.ntmps27
  go_wp2
  go_loopw [3, 4] (fun v i wr => ∃ k : Nat, i = .int .i64 k ∧ k ≤ l.length ∧ wr.ownsRow w.heap.size 3 1 v ((numsF (l.take k)).1.length + 1) (ncells (numsF (l.take k))) ∧ Below w.heap.size w wr) (fun _ i _ => l.length - (intOf i).toNat)
  case atStart => exact ⟨0, rfl, Nat.zero_le _, own_lit w [.int .i64 0] 3 _ _ 1 rfl (Nat.le_refl _) (by unfold maxLen; omega) rfl, (Below.refl _ _).alloc (Nat.le_refl _) _⟩
  case round =>
    obtain ⟨k, rfl, hk, hown, hbl⟩ := hrel
    have hle := numsF_le (l.take k)
    have hlt2 : (l.take k).length ≤ 1000000 := by rw [List.length_take]; omega
    obtain ⟨s, hs⟩ : ∃ s, numsF (l.take k) = s := ⟨_, rfl⟩
    rw [hs] at hown hle
    have HS := Lib.hid hs
    clear hs
    by_cases hks : k < l.length
    · have HNEXT := Lib.hid (numsF_take l k hks)
      obtain ⟨x, hx⟩ : ∃ x, l[k] = x := ⟨_, rfl⟩
      rw [hx, HS.out] at HNEXT
      obtain ⟨xn, hxn⟩ : ∃ xn, x.toNat = xn := ⟨_, rfl⟩
      have hix : ∀ hh, ((⟨l.toArray⟩ : ByteArray)[k]'hh).toNat = xn := fun _ => (congrArg UInt8.toNat hx).trans hxn
      clear hx
      have hxb : xn < 256 := by rw [← hxn]; exact x.toNat_lt
      obtain ⟨q, hq⟩ : ∃ q, s.1.length = q := ⟨_, rfl⟩
      obtain ⟨m, hm⟩ : ∃ m, s.2 = m := ⟨_, rfl⟩
      rw [hq] at hown hle
      rw [hm] at hle
      obtain ⟨hle1, hle2⟩ := hle
      have hq6 : q ≤ 1000000 := by omega
      by_cases hd : 48 ≤ xn ∧ xn ≤ 57
      · obtain ⟨hd1, hd2⟩ := hd
        obtain ⟨A, c, rfl⟩ := own_form hown
        obtain ⟨g, rfl, hg1, hg2, hcell⟩ := own_at hown (j := q) (by rw [← hq]; exact ncells_last s)
        rw [hm] at hcell
        obtain ⟨hc1, hc2⟩ := own_cap hown
        have hinit := (Rd.own hown).take q
        have HM := Lib.hid hm
        have HQ := Lib.hid hq
        have HXN := Lib.hid hxn
        have HOWN := Lib.hid hown
        have HINIT := Lib.hid hinit
        clear hm hq hxn hown hinit
        have hol := own_lit wr [] 3 wr.heap.size w.heap.size 0 rfl hbl.size (by unfold maxLen; omega) rfl
        go_wp2_with (at_builtin; refine wpList_append_rd rfl _ _ 60 rfl w.heap.size 3 i0 (.int .i64 0) 8 Tryd.underlying60 hi0 hz0 hz1 hz2 rfl _ _ _ rfl hol (some ⟨g, 0, none⟩) q c ((ncells s).take q) rfl (fun h => by cases h) (by rw [List.length_take, ncells_length, HQ.out]; omega) (HINIT.out.alloc (Nat.le_refl _) _) (fun u hu => ncells_one s u (List.mem_of_mem_take hu)) (by unfold maxLen; omega) (by omega) (by have := hbl.size; simp; omega) ?_; intro v5 w5 hown5 hgrow5)
        have HN : Hid (numsF (l.take (k + 1)) = (s.1, min (10 * s.2 + (x.toNat - 48)) 99999)) := by
          show _ = _
          rw [HNEXT.out]
          unfold nstep
          rw [if_pos (by unfold isD; rw [HXN.out]; exact decide_eq_true ⟨hd1, hd2⟩)]
        have HO5 := Lib.hid hown5
        have HB5 := Lib.hid ((hbl.alloc hbl.size (Obj.cells #[] 3)).grown hgrow5 (by have := hbl.size; simp; omega) fun k h => by
          have e : wr.heap.size = k := by simpa [Act.eval, Value.ownBlock] using h
          have := hbl.size
          omega)
        have hcell5 : w5.cell? ⟨g, q, none⟩ = some (.int .i64 m) := by
          have h1 : (wr.alloc (Obj.cells #[] 3)).cell? ⟨g, q, none⟩ = some (.int .i64 m) := (World.cell?_alloc_lt wr _ _ hg2).trans hcell
          refine (World.cell?_of_block (hgrow5.block g (by rw [World.size_alloc]; omega) fun h => ?_)).trans h1
          have e : wr.heap.size = g := by simpa [Act.eval, Value.ownBlock] using h.symm
          omega
        have hcell6 : w5.drew.cell? ⟨g, q, none⟩ = some (.int .i64 m) := hcell5
        clear hown5 hgrow5 hol hcell
        have hq0 : (0 : Int) ≤ (q : Int) := by omega
        have hqlt : (q : Int) < (q : Int) + 1 := by omega
        have hwq : IntKind.i64.wrap (q : Int) = (q : Int) := IntWalk.i64_in _ ⟨by omega, by omega⟩
        have hw10 : IntKind.i64.wrap (10 * (m : Int)) = 10 * (m : Int) := IntWalk.i64_in _ ⟨by omega, by omega⟩
        have hwx : IntKind.i64.wrap ((xn : Int) - 48) = (xn : Int) - 48 := IntWalk.i64_in _ ⟨by omega, by omega⟩
        have hws : IntKind.i64.wrap (10 * (m : Int) + ((xn : Int) - 48)) = 10 * (m : Int) + ((xn : Int) - 48) := IntWalk.i64_in _ ⟨by omega, by omega⟩
        have hwu : IntKind.u8.wrap ((xn : Int) - 48) = (xn : Int) - 48 := by rw [IntKind.wrap_u8]; omega
        go_region_law (refine step_append_own rfl (.tmp 33) (.tmp 48) 60 rfl w.heap.size 3 i0 (.int .i64 0) 1 8 Tryd.underlying60 hi0 hz0 hz1 hz2 rfl (by decide) _ _ _ (by simp [Act.eval]) (HO5.out.drew.alloc _) ⟨w5.heap.size, 0, none⟩ 1 1 [.int .i64 (min (10 * (m : Int) + ((xn : Int) - 48)) 99999)] (by simp [Act.eval]) rfl (cell_one_new _ _ _) (by intro u hu; simp at hu; subst hu; rfl) (by unfold maxLen; omega) (by omega) (by have := HB5.out.size; simp; omega) ?_; intro v2 w2 hown2 hgrow2 hnn)
        all_goals
          have HO : Hid (w2.ownsRow w.heap.size 3 1 v2 (s.1.length + 1) (ncells (s.1, min (10 * s.2 + (x.toNat - 48)) 99999))) := by
            have e : ncells (s.1, min (10 * s.2 + (x.toNat - 48)) 99999) = [] ++ (ncells s).take q ++ [.int .i64 (min (10 * (m : Int) + ((xn : Int) - 48)) 99999)] := by
              rw [← HQ.out, ncells_init, HM.out, HXN.out]
              simp only [ncells, List.map_append, List.map_cons, List.map_nil, List.nil_append]
              congr 3
              omega
            show World.ownsRow _ _ _ _ _ _ _
            rw [e, HQ.out]
            rw [Nat.zero_add] at hown2
            exact hown2
          have HB := Lib.hid ((HB5.out.alloc HB5.out.size _).drew.grown hgrow2 (by have := HB5.out.size; simp; omega) fun g h => (HO5.out.lt g h).1)
          clear hown2 hgrow2 hnn
          go_wp2
          go_roundw
          case rel => exact ⟨k + 1, by go_num, hks, by rw [HN.out]; exact HO.out, HB.out⟩
          case measure => simp [intOf]; omega
      · have HN : Hid (numsF (l.take (k + 1)) = (s.1 ++ [s.2], 0)) := by
          show _ = _
          rw [HNEXT.out]
          exact nstep_mark _ _ _ (by unfold isD; rw [hxn]; exact decide_eq_false hd)
        have HQ := Lib.hid hq
        clear hm hq hxn
        rcases (show xn < 48 ∨ 57 < xn by omega) with hd2 | hd2
        all_goals
          clear hd
          go_wp2_with (at_builtin; refine wpList_append_own _ rfl _ _ 60 rfl w.heap.size 3 i0 (.int .i64 0) 1 8 Tryd.underlying60 hi0 hz0 hz1 hz2 rfl (by decide) _ _ _ rfl (hown.alloc _) ⟨wr.heap.size, 0, none⟩ 1 1 [.int .i64 0] rfl rfl (cell_one_new _ _ _) (by intro u hu; simp at hu; subst hu; rfl) (by unfold maxLen; omega) (by omega) (by have := hbl.size; simp; omega) ?_; intro v2 w2 hown2 hgrow2 hnn)
          have HO : Hid (w2.ownsRow w.heap.size 3 1 v2 (s.1.length + 1 + 1) (ncells (s.1 ++ [s.2], 0))) := by
            have e : ncells (s.1 ++ [s.2], 0) = ncells s ++ [.int .i64 0] := by simp [ncells]
            show World.ownsRow _ _ _ _ _ _ _
            rw [e, HQ.out]
            exact hown2
          have HB := Lib.hid ((hbl.alloc hbl.size _).grown hgrow2 (by have := hbl.size; simp; omega) fun g h => (hown.lt g h).1)
          clear hown2 hgrow2 hnn
          go_wp2
          go_roundw
          case rel => exact ⟨k + 1, by go_num, hks, by rw [HN.out]; simpa using HO.out, HB.out⟩
          case measure => simp [intOf]; omega
    · obtain rfl : k = l.length := by omega
      rw [List.take_length] at HS
      go_wp2
      go_ret
      exact ⟨_, rfl, by rw [HS.out]; exact hown, hbl⟩
end Go.Proofs.YtbahkilfcfbolaaDoor
