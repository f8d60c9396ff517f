/-
  append onto a row of the call's own: whatever the call owns besides, no longer than that row was, it owns still. Rows of bytes as predicates. Of no one layer; no condition.
-/
import Derived.Test.YtecbelnmdimnkaaKit
namespace Go.Proofs.Ytecbelnmdimnkaa
open Go.RowKit

/-- 'append' onto a row of the call's own, which is owned still, as long as it was -/
theorem app_keep {P : Program} {w : World} {base : Nat} {t ty e : TypeId} {i : TypeInfo} {z : Value} (ht : P.underlying t = some (.slice e)) (hi : P.info? e = some i) (hz : i.zero = some z) (hsize : i.size = 1) (hby : i.bytes = 1) (hzs : z.cells.size = 1)
    {g c n : Nat} {xs : List Value} (hown : w.ownsRow base e 1 (.slice (some ⟨g, 0, none⟩) n c) n xs)
    {A : Option Addr} {m k : Nat} {news : List Value} (hA : A = none → k = 0) (hl : news.length = m) {lo hi' : Nat} (hrd : Rd w lo hi' A news) (h1 : ∀ u ∈ news, u.oneCell' = true) (h63 : n + m ≤ maxLen) (hby2 : n + m ≤ 140737488355328) (hbase : base ≤ w.heap.size) :
    ∃ v' w', (Builtin.append_ #[t, t] ty #[.slice (some ⟨g, 0, none⟩) n c, .slice A m k]).run P w = .ok v' w' ∧ w'.ownsRow base e 1 v' (n + m) (xs ++ news) ∧ (∀ u n' xs', n' ≤ n → w.ownsRow base e 1 u n' xs' → w'.ownsRow base e 1 u n' xs') ∧ Below base w w' := by
  rcases A with _ | ad
  · have e0 : news = [] := by
      rcases news with _ | ⟨u, r⟩
      · rfl
      · obtain ⟨ad, e, _⟩ := hrd 0 u rfl
        cases e
    subst e0
    have hm : m = 0 := hl.symm
    have hc : k = 0 := hA rfl
    subst hm hc
    exact ⟨_, w, run_append_owned_none (P := P) (w := w) base t ty e i 1 ht hi _ n xs hown, by simpa using hown, fun _ _ _ _ h => h, Below.refl _ _⟩
  · have hnews : ∀ j u, news[j]? = some u → w.cell? (ad.add j) = some u := fun j u hu => by
      obtain ⟨ad', e', _, _, hc⟩ := hrd j u hu
      cases e'
      exact hc
    obtain ⟨hxl, hown2⟩ := hown
    rcases hown2 with ⟨he, _⟩ | ⟨g', c', cur, he, hb, hg, hnc, hcm, hcs, htk⟩
    · cases he
    · injection he with e1 e2 e3
      injection e1 with e1
      injection e1 with e1
      subst e1 e3
      rw [Nat.mul_one] at hcs htk hxl
      by_cases hroom : n + m ≤ c
      · have hr := run_append_room (P := P) w t ty e i ht hi g n c cur hg ad m k news (by rw [hsize]; omega) hnews h1 hroom (by rw [hsize]; omega)
        rw [hsize, Nat.mul_one] at hr
        have hz0 := setRow_heap w g cur (cur.toList.take n ++ news ++ cur.toList.drop (n + news.length)).toArray e (0, 0) hg
        have hcl : cur.toList.length = c := by rw [← hcs]; simp
        have hsz : (cur.toList.take n ++ news ++ cur.toList.drop (n + news.length)).toArray.size = c := by
          simp only [List.size_toArray, List.length_append, List.length_take, List.length_drop, hcl]
          omega
        refine ⟨_, _, hr, ⟨by rw [List.length_append]; omega, .inr ⟨g, c, _, rfl, hb, hz0, hroom, hcm, by rw [hsz]; omega, ?_⟩⟩, fun u n' xs' hnn hu => ?_, below_setRow (Below.refl _ _) hb _⟩
        · show (cur.toList.take n ++ news ++ cur.toList.drop (n + news.length)).take ((n + m) * 1) = _
          rw [Nat.mul_one, htk, List.take_left' (by rw [List.length_append]; omega)]
        · rcases hu.2 with h0 | ⟨g2, c2, cur2, he2, hb2, hg2, hn2, hm2, hs2, ht2⟩
          · exact ⟨hu.1, .inl h0⟩
          · by_cases hgg : g2 = g
            · subst hgg
              rw [hg] at hg2
              injection hg2 with hg2
              injection hg2 with hg2 _ _
              subst hg2
              refine ⟨hu.1, .inr ⟨g2, c2, _, he2, hb2, hz0, hn2, hm2, by rw [hsz]; omega, ?_⟩⟩
              show (cur.toList.take n ++ news ++ cur.toList.drop (n + news.length)).take (n' * 1) = _
              rw [← ht2, List.append_assoc, List.take_append_of_le_length (by rw [List.length_take, hcl]; omega), List.take_take, Nat.min_eq_left (by omega)]
            · exact ⟨hu.1, .inr ⟨g2, c2, cur2, he2, hb2, (setRow_other w g g2 _ hgg).trans hg2, hn2, hm2, hs2, ht2⟩⟩
      · obtain ⟨v', w', hr, r1, r2⟩ := run_append_arg_grows (P := P) w t ty e i z 1 1 ht hi hz hsize hby hzs (by omega) ⟨g, 0, none⟩ n c xs (by omega) (fun j u hu => by
          have hj := (List.getElem?_eq_some_iff.1 hu).1
          rw [← htk, List.getElem?_take, if_pos (by omega)] at hu
          rw [Addr.add_lit, Nat.zero_add, cell_of_row _ _ _ _ _ _ hg]
          simpa using hu) ad m k news (by omega) hnews (by omega) h63 (by omega)
        have hbl : Below w.heap.size w w' := ⟨r2.os, r2.tape, r2.output, r2.size, fun k hk => r2.block k hk (by simp)⟩
        refine ⟨v', w', hr, own_base r1 hbase, fun u n' xs' hnn hu => ?_, hbl.mono hbase⟩
        rcases hu.2 with h0 | ⟨g2, c2, cur2, he2, hb2, hg2, hrest⟩
        · exact ⟨hu.1, .inl h0⟩
        · exact ⟨hu.1, .inr ⟨g2, c2, cur2, he2, hb2, (hbl.block _ (row_lt hg2)).trans hg2, hrest⟩⟩
/-- an empty slice that is not nil -/
def Emp : Pred := fun v _ => ∃ b0, v = .slice (some b0) 0 0
/-- a row of the call's own -/
def OwnL (B L : Nat) (bs : List UInt8) : Pred := fun v w => ∃ g c, v = .slice (some ⟨g, 0, none⟩) L c ∧ w.ownsRow B 5 1 (.slice (some ⟨g, 0, none⟩) L c) L (cells bs)
theorem ownL_mono (B L : Nat) (bs : List UInt8) : Mono (OwnL B L bs) := fun _ _ _ hb ⟨g, c, h1, h2⟩ => ⟨g, c, h1, own_below h2 hb (Nat.le_refl _)⟩
theorem ownL_cap {B L c : Nat} {bs : List UInt8} {g : Nat} {w : World} (h : w.ownsRow B 5 1 (.slice (some ⟨g, 0, none⟩) L c) L (cells bs)) (hL : 0 < L) : OwnL B L bs (.slice (some ⟨g, 0, none⟩) L c) w := ⟨g, c, rfl, h⟩
theorem ownL_of {B L : Nat} {bs : List UInt8} {v : Value} {w : World} (h : w.ownsRow B 5 1 v L (cells bs)) (hL : 0 < L) : OwnL B L bs v w := by
  rcases h.2 with ⟨he, h0⟩ | ⟨g, cap, cur, he, _⟩
  · omega
  · subst he
    exact ⟨g, cap, rfl, h⟩
end Go.Proofs.Ytecbelnmdimnkaa
