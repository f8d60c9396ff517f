/-
  octets.Hex(b): of each byte two digits, the higher one first. Every b of at most a milliard bytes whose cells can be read.
-/
import Derived.Test.YtbahkilfcfbolaaDoorMem
import Derived.Test.YtbahkilfcfbolaaDoorPut
import Derived.Deep.RegionLaw
namespace Go.Proofs.YtbahkilfcfbolaaDoor
open Go.RowKit

/-- a digit's sign -/
def dig (x : Nat) : UInt8 := if x < 10 then UInt8.ofNat (48 + x) else UInt8.ofNat (87 + x)
def hexL (l : List UInt8) : List UInt8 := l.flatMap fun c => [dig (c.toNat / 16), dig (c.toNat % 16)]
theorem hexL_length (l : List UInt8) : (hexL l).length = 2 * l.length := by
  induction l with
  | nil => rfl
  | cons c r ih => simp [hexL] at ih ⊢; omega

section
variable {P : Program} {w : World}
theorem step_append_own {ops : Array Oper} {o : Oper} {a : Act} {K : Act → World → Prop} {Q : Exit → Act → World → Prop} {E : Prop} (hgd : o.guard = none) (s x : Operand) (t : TypeId)
    (ho : o.op = .call { callee := .builtin .append, args := #[s, x], argTypes := #[t, t] })
    (base : Nat) (e : TypeId) (i : TypeInfo) (z : Value) (size bytes : Nat) (ht : P.underlying t = some (.slice e)) (hi : P.info? e = some i) (hz : i.zero = some z)
    (hsize : i.size = size) (hby : i.bytes = bytes) (hzs : z.cells.size = size) (hsz : 0 < size)
    (v : Value) (n : Nat) (xs : List Value) (hs : a.eval s = v) (hown : w.ownsRow base e size v n xs)
    (ad : Addr) (m c : Nat) (news : List Value) (hx : a.eval x = .slice (some ad) m c) (hl : news.length = m * size) (hnews : ∀ j u, news[j]? = some u → w.cell? (ad.add j) = some u) (h1 : ∀ u ∈ news, u.oneCell' = true)
    (h63 : n + m ≤ maxLen) (hbytes : (n + m) * bytes ≤ 140737488355328) (hbase : base ≤ w.heap.size)
    (h : ∀ v' w', w'.ownsRow base e size v' (n + m) (xs ++ news) → w.grownBy w' v.ownBlock → (v' = .slice none 0 0 ↔ v = .slice none 0 0 ∧ m = 0) → K (a.put o.dst v') w') :
    if Region.wanted o (yielded ops a.tmps) = true then Oper.wp P o a w K Q else E := by
  have hw : Region.wanted o (yielded ops a.tmps) = true := by simp [Region.wanted, hgd]
  rw [if_pos hw]
  exact wp_append_own w s x t ho base e i z size bytes ht hi hz hsize hby hzs hsz v n xs hs hown ad m c news hx hl hnews h1 h63 hbytes hbase h
end

def digits : Array UInt8 := #[48, 49, 50, 51, 52, 53, 54, 55, 56, 57, 97, 98, 99, 100, 101, 102]
theorem digit_all : ∀ q : Fin 16, (⟨digits⟩ : ByteArray)[q.val]'(by have := q.isLt; exact this) = dig q.val := by decide +kernel
theorem digit_at (q : Nat) (h : q < 16) (hh : q < (⟨digits⟩ : ByteArray).size) : (⟨digits⟩ : ByteArray)[q]'hh = dig q := digit_all ⟨q, h⟩
theorem low_four (x : Nat) (h : x < 256) : bits .and .u8 (x : Int) 15 = ((x % 16 : Nat) : Int) := by
  rw [show (15 : Int) = ((15 : Nat) : Int) from rfl, u8_and_nat x 15 h (by omega)]
  rw [show x &&& 15 = x % 16 from Nat.and_two_pow_sub_one_eq_mod x 4]

theorem hexL_step (l : List UInt8) (k : Nat) (hk : k < l.length) : hexL (l.take (k + 1)) = hexL (l.take k) ++ [dig (l[k].toNat / 16), dig (l[k].toNat % 16)] := by
  rw [List.take_succ_eq_append_getElem hk]
  unfold hexL
  rw [List.flatMap_append]
  rfl
theorem hex_rel {w wr w2 : World} {B e k q r xn : Nat} {l : List UInt8} {x : UInt8} {v v' : Value} {o : Obj} (hk : k < l.length) (hx : l[k] = x) (hxn : x.toNat = xn) (hq : xn / 16 = q) (hr : xn % 16 = r) (hbl : Below B w wr)
    (hrow : wr.ownsRow B e 1 v (2 * k) (cells (hexL (l.take k)))) (hown : w2.ownsRow B e 1 v' (2 * k + 2) (cells (hexL (l.take k)) ++ [.int .u8 ((dig q).toNat : Int), .int .u8 ((dig r).toNat : Int)]))
    (hg : (wr.alloc o).drew.grownBy w2 v.ownBlock) (hB : B ≤ wr.heap.size := by omega) : w2.ownsRow B e 1 v' (2 * (k + 1)) (cells (hexL (l.take (k + 1)))) ∧ Below B w w2 := by
  constructor
  · rw [hexL_step l k hk, hx, hxn, hq, hr, cells_append]
    exact hown
  · exact (hbl.alloc hB o).drew.grown hg (by simp; omega) fun g h => (hrow.lt g h).1

set_option maxHeartbeats 400000 in
theorem hex_ok (ad : Addr) (l : List UInt8) (c lo hi : Nat) (w : World) (h : Rd w lo hi (some ad) (cells l)) (hhi : hi ≤ w.heap.size) (hl : l.length ≤ 1000000000) :
    Calls Tryd.prog 33 #[.slice (some ad) l.length c] w fun e w' => e = .returned (.string ⟨(hexL l).toArray⟩) ∧ Below w.heap.size w w' := by
  obtain ⟨i0, hi0, hz0, hz1, hz2⟩ := info_parts info5
  go_enter Tryd.func33, Tryd.ntmps33
  go_wp2_with (at_make; refine wpList_make_own _ rfl _ _ 68 rfl w.heap.size 5 i0 (.int .u8 0) 1 Tryd.underlying68 hi0 hz0 hz1 .i64 .i64 _ (2 * l.length) rfl rfl (by omega) (by rw [hz2]; omega) (by unfold maxLen; omega) (Nat.le_refl _) ?_; intro w1 hown hgrow)
  have hb0 : Below w.heap.size w w1 := (Below.refl _ _).grown hgrow (Nat.le_refl _) (by intro k hk; cases hk)
  clear hgrow
  go_loopw [3, 12] (fun v i wr => ∃ k : Nat, k ≤ l.length ∧ i = .int .i64 k ∧ wr.ownsRow w.heap.size 5 1 v (2 * k) (cells (hexL (l.take k))) ∧ Below w.heap.size w wr) (fun _ i _ => l.length - (intOf i).toNat)
  case atStart => exact ⟨0, Nat.zero_le _, rfl, hown, hb0⟩
  case round =>
    obtain ⟨k, hk, rfl, hrow, hbl⟩ := hrel
    clear hown hb0
    by_cases hks : k < l.length
    · obtain ⟨x, hx⟩ : ∃ x, l[k] = x := ⟨_, rfl⟩
      have hcell : wr.cell? (ad.add k) = some (.int .u8 (x.toNat : Int)) := by
        obtain ⟨ad', e, hc⟩ := (h.below hbl hhi).byte hks
        cases e
        rw [hx] at hc
        exact hc
      have HX : Hid (l[k] = x) := hx
      clear hx
      have hxb := x.toNat_lt
      generalize hxn : x.toNat = xn at hcell hxb
      have HXN : Hid (x.toNat = xn) := hxn
      clear hxn
      have hxb2 : xn < 256 := by omega
      clear hxb
      obtain ⟨q, hq⟩ : ∃ q : Nat, xn / 16 = q := ⟨_, rfl⟩
      obtain ⟨r, hr⟩ : ∃ r : Nat, xn % 16 = r := ⟨_, rfl⟩
      have e1 : (xn : Int) / 16 = (q : Int) := by omega
      have e2 : bits .and .u8 (xn : Int) 15 = (r : Int) := by rw [← hr]; exact low_four xn hxb2
      have hq16 : (q : Int) < 16 := by omega
      have hr16 : (r : Int) < 16 := by omega
      have hdq : ∀ hh, (⟨digits⟩ : ByteArray)[q]'hh = dig q := fun hh => digit_at q (by omega) hh
      have hdr : ∀ hh, (⟨digits⟩ : ByteArray)[r]'hh = dig r := fun hh => digit_at r (by omega) hh
      unfold digits at hdq hdr
      have HQ : Hid (xn / 16 = q) := hq
      have HR : Hid (xn % 16 = r) := hr
      clear hq hr
      go_wp2
      go_region_law (refine step_append_own rfl (.tmp 16) (.tmp 23) 68 rfl w.heap.size 5 i0 (.int .u8 0) 1 1 Tryd.underlying68 hi0 hz0 hz1 hz2 rfl (by decide) _ _ _ (by simp [Act.eval]) (hrow.drew.alloc _) ⟨wr.heap.size, 0, none⟩ 2 2 [.int .u8 ((dig q).toNat : Int), .int .u8 ((dig r).toNat : Int)] (by simp [Act.eval]) rfl (cell_two_new _ _ _ _) (by intro u hu; simp at hu; rcases hu with rfl | rfl <;> rfl) (by unfold maxLen; omega) (by omega) (by have := hbl.size; simp; omega) ?_; intro v' w2 hown2 hgrow2 hnn)
      all_goals
        have R := hex_rel hks HX.out HXN.out HQ.out HR.out hbl hrow hown2 hgrow2 hbl.size
        clear hown2 hgrow2 hnn
        go_wp2
        go_roundw
        case rel => exact ⟨k + 1, by omega, by go_num, R.1, R.2⟩
        case measure => simp [intOf]; omega
    · obtain rfl : k = l.length := by omega
      obtain ⟨A, cc, hv⟩ : ∃ A cc, u3 = .slice A (2 * l.length) cc := own_form hrow
      have hr2 : wr.ownsRow w.heap.size 5 1 (.slice A (2 * l.length) cc) (2 * l.length) (cells (hexL l)) := by
        rw [List.take_length, hv] at hrow
        exact hrow
      have ht : (convert 68 9 (.slice A (2 * l.length) cc)).run Tryd.prog wr = .ok (.string ⟨(hexL l).toArray⟩) wr := by
        have := run_text (P := Tryd.prog) wr 68 9 5 cc Tryd.underlying68 Tryd.underlying5 Tryd.underlying9 (Rd.own hr2)
        rwa [hexL_length] at this
      clear hrow hr2
      rw [hv]
      clear hv
      go_wp2
      go_ret
      exact ⟨rfl, hbl⟩

theorem hex_none (c : Nat) (w : World) :
    Calls Tryd.prog 33 #[.slice none 0 c] w fun e w' => e = .returned (.string ⟨#[]⟩) ∧ Below w.heap.size w w' := by
  obtain ⟨i0, hi0, hz0, hz1, hz2⟩ := info_parts info5
  go_enter Tryd.func33, Tryd.ntmps33
  go_wp2_with (at_make; refine wpList_make_own _ rfl _ _ 68 rfl w.heap.size 5 i0 (.int .u8 0) 1 Tryd.underlying68 hi0 hz0 hz1 .i64 .i64 _ 0 rfl rfl (by omega) (by rw [hz2]; omega) (by unfold maxLen; omega) (Nat.le_refl _) ?_; intro w1 hown hgrow)
  have hb0 : Below w.heap.size w w1 := (Below.refl _ _).grown hgrow (Nat.le_refl _) (by intro k hk; cases hk)
  clear hgrow
  have ht : (convert 68 9 (.slice (some ⟨w.heap.size, 0, none⟩) 0 0)).run Tryd.prog w1 = .ok (.string ⟨#[]⟩) w1 :=
    run_text (P := Tryd.prog) (l := []) w1 68 9 5 0 Tryd.underlying68 Tryd.underlying5 Tryd.underlying9 (Rd.own hown)
  refine wp_loop_rounds 1 ?_
  rw [rounds_succ]
  go_wp2
  go_ret
  exact ⟨rfl, hb0⟩

/-- octets.Hex, all of it -/
theorem hex_any (A : Option Addr) (l : List UInt8) (c lo hi : Nat) (w : World) (h : Rd w lo hi A (cells l)) (hhi : hi ≤ w.heap.size) (hl : l.length ≤ 1000000000) :
    Calls Tryd.prog 33 #[.slice A l.length c] w fun e w' => e = .returned (.string ⟨(hexL l).toArray⟩) ∧ Below w.heap.size w w' := by
  rcases A with _ | ad
  · have e : l = [] := by
      rcases l with _ | ⟨x, r⟩
      · rfl
      · obtain ⟨ad, e, _⟩ := h.byte (k := 0) (by simp)
        cases e
    subst e
    exact hex_none c w
  · exact hex_ok ad l c lo hi w h hhi hl
end Go.Proofs.YtbahkilfcfbolaaDoor
