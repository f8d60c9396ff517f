/-
  frag.Split, all of it: what it answers of every packet that can be read. No condition.
-/
import Derived.Test.YtogplhdcicajgaaSplit
namespace Go.Proofs.Ytogplhdcicajgaa
open Go.RowKit

/-- what a function leaves that hands back packets of its own and an error -/
def PksPost (w : World) (r : List Pk × Int) (e : Ending) (w' : World) : Prop :=
  ∃ v, e = .returned (.tuple #[v, .int .i64 r.2]) ∧ OwnPks w' w.heap.size v r.1 ∧ Below w.heap.size w w'
theorem pks_none {w w' : World} {r : List Pk × Int} {z : Int} (h : r = ([], z)) (hb : Below w.heap.size w w') : PksPost w r (.returned (.tuple #[.slice none 0 0, .int .i64 z])) w' := by
  subst h
  exact ⟨_, rfl, ⟨[], World.ownsRow_nil _ _ _ _, RowOf.nil⟩, hb⟩

set_option maxHeartbeats 400000 in
theorem split_arg (cs : Array Value) (off : Int) (more : Bool) (w : World) (h1 : cs[1]? = some (.bool more)) (h2 : cs[2]? = some (.int .i64 off)) (h : off ≠ 0 ∨ more = true) :
    Calls Try.prog 6 #[.agg cs] w fun e w' => e = .returned (.tuple #[.slice none 0 0, .int .i64 1]) ∧ Below w.heap.size w w' := by
  have HB := Lib.hid ((Below.refl w.heap.size w).alloc (Nat.le_refl _) (.cells cs 27))
  by_cases h0 : off = 0
  · have hm : more = true := h.resolve_left (fun hh => hh h0)
    subst hm h0
    clear h
    go_enter Try.func6, Try.ntmps6
    go_wp2
    go_ret2
    exact ⟨rfl, HB.out⟩
  · have h0' : (off != 0) = true := bneT h0
    clear h h0
    go_enter Try.func6, Try.ntmps6
    go_wp2
    go_ret2
    exact ⟨rfl, HB.out⟩
set_option maxHeartbeats 400000 in
theorem split_long (cs : Array Value) (A : Option Addr) (n c : Nat) (w : World) (h1 : cs[1]? = some (.bool false)) (h2 : cs[2]? = some (.int .i64 0)) (h3 : cs[13]? = some (.slice A n c)) (hm : n ≤ 9223372036854775807) (h : 1000 < n) :
    Calls Try.prog 6 #[.agg cs] w fun e w' => e = .returned (.tuple #[.slice none 0 0, .int .i64 4]) ∧ Below w.heap.size w w' := by
  have HB := Lib.hid ((Below.refl w.heap.size w).alloc (Nat.le_refl _) (.cells cs 27))
  go_enter Try.func6, Try.ntmps6
  go_wp2
  go_ret2
  exact ⟨rfl, HB.out⟩

theorem split_any (cs : Array Value) (p : Pk) (lo hi : Nat) (w : World) (h : PkV w lo hi cs p) (hhi : hi ≤ w.heap.size) :
    Calls Try.prog 6 #[.agg cs] w (PksPost w (splitP p)) := by
  have h2 := h.off_cell
  obtain ⟨A0, c0, h1, _, h13, _, hlc0, hcm0, _⟩ := h.parts
  by_cases ha : p.off ≠ 0 ∨ p.more = true
  · have e1 : splitP p = ([], 1) := by unfold splitP; rw [if_pos ha]
    refine (split_arg cs p.off p.more w h1 h2 ha).mono ?_
    rintro e w' ⟨rfl, hb⟩
    exact pks_none e1 hb
  · have h0 : p.off = 0 := Classical.byContradiction fun hh => ha (.inl hh)
    have hm : p.more = false := by
      cases hmm : p.more
      · rfl
      · exact absurd (.inr hmm) ha
    by_cases hl : 1000 < p.data.length
    · have e1 : splitP p = ([], 4) := by unfold splitP; rw [if_neg ha, if_pos hl]
      rw [h0] at h2
      rw [hm] at h1
      refine (split_long cs A0 p.data.length c0 w h1 h2 h13 (by unfold maxLen at hcm0; omega) hl).mono ?_
      rintro e w' ⟨rfl, hb⟩
      exact pks_none e1 hb
    · have e1 : splitP p = (splitL p (piecesN p.data.length), 0) := by unfold splitP; rw [if_neg ha, if_neg hl]
      rw [e1]
      obtain ⟨A, c, he, hok, _, hrd, hlc, hcm, hA⟩ := h
      obtain ⟨id, mr, off, ttl, proto, src, dst, data⟩ := p
      simp only at h0 hm
      subst h0 hm
      obtain ⟨hid, hs, hd⟩ := hok
      simp only at hs hd he hid hrd hlc hl
      obtain ⟨s0, s1, s2, s3, rfl⟩ := four_of src hs
      obtain ⟨d0, d1, d2, d3, rfl⟩ := four_of dst hd
      subst he
      refine (split_ok id ttl proto s0 s1 s2 s3 d0 d1 d2 d3 data A data.length c lo hi w hid hrd rfl hlc hcm hA hhi (by omega)).mono ?_
      rintro e w' ⟨v, rfl, h1, h2⟩
      exact ⟨v, rfl, h1, h2⟩
end Go.Proofs.Ytogplhdcicajgaa
