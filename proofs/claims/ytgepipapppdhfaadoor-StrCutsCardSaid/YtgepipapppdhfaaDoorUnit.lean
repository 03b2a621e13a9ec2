/- str.getUnit by its contract. Condition: the bytes and the cuts read as such; the Cursor stands in the bytes; flags are 0 or 1. -/
import Derived.Test.YtgepipapppdhfaaDoorAnew
namespace Go.Proofs.YtgepipapppdhfaaDoor
open Go.RowKit Go.Lib

/-- The unit at a place: what it is, the place behind it, what is wrong. -/
def rdU1 (l : List UInt8) (cs : List Int) (fl at_ : Nat) : Nat × Nat × Int :=
  if fl = 0 then (if at_ < l.length then ((l.getD at_ 0).toNat, at_ + 1, 0) else (0, at_, 5))
  else if at_ + 1 < l.length then (if cs.contains ((at_ : Int) + 1) = true then (0, at_, 2) else ((l.getD at_ 0).toNat + 256 * (l.getD (at_ + 1) 0).toNat, at_ + 2, 0))
  else (0, at_, 5)

theorem u16_in {l : List UInt8} {n at_ : Nat} (hl : l.length = n) (h : at_ + 1 < n) : ((numN (tkL l at_ 2) : Nat) : Int) = (((l.getD at_ 0).toNat + 256 * (l.getD (at_ + 1) 0).toNat : Nat) : Int) ∧ tkAt at_ 2 n = ((at_ + 2 : Nat) : Int) ∧ tkE at_ 2 n = 0 := by
  have e : tkE (at_ : Int) 2 n = 0 := by
    unfold tkE stB
    rw [if_neg (by rw [decide_eq_true (by omega)]; simp), if_neg (by omega)]
  refine ⟨?_, ?_, e⟩
  · unfold tkL
    rw [if_pos (by rw [hl]; exact e)]
    have h1 : (l.drop at_).take 2 = [l.getD at_ 0, l.getD (at_ + 1) 0] := by
      rw [List.getD_eq_getElem?_getD, List.getD_eq_getElem?_getD, List.getElem?_eq_getElem (by omega), List.getElem?_eq_getElem (by omega)]
      rw [List.drop_eq_getElem_cons (by omega), List.drop_eq_getElem_cons (by omega)]
      rfl
    have h2 : ((l.drop (at_ : Int).toNat).take (2 : Int).toNat) = [l.getD at_ 0, l.getD (at_ + 1) 0] := by simpa using h1
    rw [h2]
    simp [numN]
  · unfold tkAt
    rw [if_pos e]
    omega
theorem u16_end {l : List UInt8} {n at_ : Nat} (hl : l.length = n) (ha : at_ ≤ n) (h : ¬ at_ + 1 < n) : numN (tkL l (at_ : Int) 2) = 0 ∧ tkAt at_ 2 n = (at_ : Int) ∧ tkE at_ 2 n = 5 := by
  have e : tkE (at_ : Int) 2 n = 5 := by
    unfold tkE stB
    rw [if_neg (by rw [decide_eq_true (by omega)]; simp), if_pos (by omega)]
  refine ⟨?_, ?_, e⟩
  · unfold tkL
    rw [if_neg (by rw [hl, e]; decide)]
    rfl
  · unfold tkAt
    rw [if_neg (by rw [e]; decide)]

set_option maxHeartbeats 4000000 in
set_option maxRecDepth 100000 in
theorem getUnit_one {w : World} {n c n' c' : Nat} {A A' : Option Addr} {a0 a1 v : Nat} {e1 : Int}
    (HU : ∀ W, Below w.heap.size w W → Calls Tryd.prog 37 #[cur A n c a0] W fun e w' => e = .returned (.tuple #[.int .i64 v, cur A n c a1, .int .i64 e1]) ∧ Below W.heap.size W w') :
    Calls Tryd.prog 29 #[cur A n c a0, .slice A' n' c', .int .i64 0] w fun e w' => e = .returned (.tuple #[.int .i64 v, cur A n c a1, .int .i64 e1]) ∧ Below w.heap.size w w' := by
  unfold cur at *
  have HC := Lib.hid (HU _ (two_below w (.cells #[.slice A n c, .int .i64 a0] 30) (.cells #[.slice none 0 0, .int .i64 0] 30)))
  clear HU
  go_enter Tryd.func29, Tryd.ntmps29
  go_wp2_with fail
  refine HC.out.mono ?_
  rintro e w1 ⟨rfl, hb1⟩
  obtain ⟨k1, k2, hb', s1⟩ := two_boxes hb1
  clear HC
  have d0 := k2.cell 0
  have d1 := k2.cell 1
  have z0 := k2.frozen 0
  have z1 := k2.frozen 1
  have k2n : Bk ((w1.setCell ⟨w.heap.size + 1, 0, none⟩ (.slice A n c)).setCell ⟨w.heap.size + 1, 1, none⟩ (.int .i64 a1)) (w.heap.size + 1) 30 #[.slice A n c, .int .i64 a1] := by
    have := (k2.set_ 0 (.slice A n c)).set_ 1 (.int .i64 a1)
    simpa using this
  have hbn := (hb'.setCell (p := ⟨w.heap.size + 1, 0, none⟩) (by simp) (.slice A n c)).setCell (p := ⟨w.heap.size + 1, 1, none⟩) (by simp) (.int .i64 a1)
  go_wp2
  have q0 := k2n.cell 0
  have q1 := k2n.cell 1
  clear d0 d1 z0 z1
  exact bodyPost_ret (v := .tuple #[.int .i64 v, .agg #[.slice A n c, .int .i64 a1], .int .i64 e1]) (by simp [results, Tryd.results29, go_sem, q0, q1]) rfl ⟨rfl, hbn⟩

set_option maxHeartbeats 4000000 in
set_option maxRecDepth 100000 in
theorem getUnit_two {w : World} {n c n' c' : Nat} {A A' : Option Addr} {a0 a1 v : Nat} {e1 : Int} {R : Value} {ct : Bool} (ha : a0 ≤ 1000000000000000000)
    (HU : ∀ W, Below w.heap.size w W → Calls Tryd.prog 26 #[cur A n c a0] W fun e w' => e = .returned (.tuple #[.int .i64 v, cur A n c a1, .int .i64 e1]) ∧ Below W.heap.size W w')
    (HI : ∀ W, Below w.heap.size w W → Calls Tryd.prog 38 #[.slice A' n' c', .int .i64 ((a0 : Int) + 1)] W fun e w' => e = .returned (.bool ct) ∧ Below W.heap.size W w')
    (hR : (e1 ≠ 0 ∧ R = .tuple #[.int .i64 v, cur A n c a1, .int .i64 e1]) ∨ (e1 = 0 ∧ ct = false ∧ R = .tuple #[.int .i64 v, cur A n c a1, .int .i64 0]) ∨ (e1 = 0 ∧ ct = true ∧ R = .tuple #[.int .i64 0, cur A n c a0, .int .i64 2])) :
    Calls Tryd.prog 29 #[cur A n c a0, .slice A' n' c', .int .i64 1] w fun e w' => e = .returned R ∧ Below w.heap.size w w' := by
  unfold cur at *
  have HC := Lib.hid (HU _ (two_below w (.cells #[.slice A n c, .int .i64 a0] 30) (.cells #[.slice none 0 0, .int .i64 0] 30)))
  have HJ := Lib.hid HI
  clear HU HI
  rcases hR with ⟨h0, rfl⟩ | ⟨rfl, rfl, rfl⟩ | ⟨rfl, rfl, rfl⟩
  · go_enter Tryd.func29, Tryd.ntmps29
    go_wp2_with fail
    refine HC.out.mono ?_
    rintro e w1 ⟨rfl, hb1⟩
    obtain ⟨k1, k2, hb', s1⟩ := two_boxes hb1
    clear HC
    have k1' := k1.alloc (.cells #[.slice A n c, .int .i64 a1] 30)
    have k2' := k2.alloc (.cells #[.slice A n c, .int .i64 a1] 30)
    have k3 := Bk.new w1 30 #[.slice A n c, .int .i64 a1]
    have hbW := hb'.alloc hb'.size (.cells #[.slice A n c, .int .i64 a1] 30)
    have hsz1 := k1'.lt
    have hsz2 := k2'.lt
    have hsz3 := k3.lt
    go_wp2
    have k1b := k1'
    have k2b := k2'
    have k3b := k3
    have hbb := hbW
    clear k1' k2' k3 hbW HJ
    generalize w1.alloc (.cells #[.slice A n c, .int .i64 a1] 30) = w2 at *
    have f0 := k3b.cell 0
    have f1 := k3b.cell 1
    have d0 := k2b.cell 0
    have d1 := k2b.cell 1
    have z0 := k2b.frozen 0
    have z1 := k2b.frozen 1
    go_region
    all_goals
      go_wp2
      exact bodyPost_ret (v := .tuple #[.int .i64 v, .agg #[.slice A n c, .int .i64 a1], .int .i64 e1]) (by simp [results, Tryd.results29, go_sem, d0, d1]) rfl ⟨rfl, ((hbb.setCell (by simp) _).setCell (by simp) _).drew⟩
  · go_enter Tryd.func29, Tryd.ntmps29
    go_wp2_with fail
    refine HC.out.mono ?_
    rintro e w1 ⟨rfl, hb1⟩
    obtain ⟨k1, k2, hb', s1⟩ := two_boxes hb1
    clear HC
    have k1' := k1.alloc (.cells #[.slice A n c, .int .i64 a1] 30)
    have k2' := k2.alloc (.cells #[.slice A n c, .int .i64 a1] 30)
    have k3 := Bk.new w1 30 #[.slice A n c, .int .i64 a1]
    have hbW := hb'.alloc hb'.size (.cells #[.slice A n c, .int .i64 a1] 30)
    have hsz1 := k1'.lt
    have hsz2 := k2'.lt
    have hsz3 := k3.lt
    have g0 := k1'.cell 0
    have g1 := k1'.cell 1
    go_wp2_with fail
    refine (HJ.out _ hbW).mono ?_
    rintro e w2 ⟨rfl, hb2⟩
    clear g0 g1 HJ
    have k1b := k1'.below hb2 hsz1
    have k2b := k2'.below hb2 hsz2
    have k3b := k3.below hb2 hsz3
    have hbb := hbW.trans (hb2.mono hbW.size)
    clear k1' k2' k3 hbW hb2 hsz1 hsz2 hsz3
    go_wp2
    have f0 := k3b.cell 0
    have f1 := k3b.cell 1
    have d0 := k2b.cell 0
    have d1 := k2b.cell 1
    have z0 := k2b.frozen 0
    have z1 := k2b.frozen 1
    go_region
    all_goals
      go_wp2
      exact bodyPost_ret (v := .tuple #[.int .i64 v, .agg #[.slice A n c, .int .i64 a1], .int .i64 0]) (by simp [results, Tryd.results29, go_sem, d0, d1]) rfl ⟨rfl, ((hbb.setCell (by simp) _).setCell (by simp) _).drew⟩
  · go_enter Tryd.func29, Tryd.ntmps29
    go_wp2_with fail
    refine HC.out.mono ?_
    rintro e w1 ⟨rfl, hb1⟩
    obtain ⟨k1, k2, hb', s1⟩ := two_boxes hb1
    clear HC
    have k1' := k1.alloc (.cells #[.slice A n c, .int .i64 a1] 30)
    have k2' := k2.alloc (.cells #[.slice A n c, .int .i64 a1] 30)
    have k3 := Bk.new w1 30 #[.slice A n c, .int .i64 a1]
    have hbW := hb'.alloc hb'.size (.cells #[.slice A n c, .int .i64 a1] 30)
    have hsz1 := k1'.lt
    have hsz2 := k2'.lt
    have hsz3 := k3.lt
    have g0 := k1'.cell 0
    have g1 := k1'.cell 1
    go_wp2_with fail
    refine (HJ.out _ hbW).mono ?_
    rintro e w2 ⟨rfl, hb2⟩
    clear g0 g1 HJ
    have k1b := k1'.below hb2 hsz1
    have k2b := k2'.below hb2 hsz2
    have k3b := k3.below hb2 hsz3
    have hbb := hbW.trans (hb2.mono hbW.size)
    clear k1' k2' k3 hbW hb2 hsz1 hsz2 hsz3
    go_wp2
    have f0 := k1b.cell 0
    have f1 := k1b.cell 1
    have d0 := k2b.cell 0
    have d1 := k2b.cell 1
    have z0 := k2b.frozen 0
    have z1 := k2b.frozen 1
    go_region
    all_goals
      go_wp2
      exact bodyPost_ret (v := .tuple #[.int .i64 0, .agg #[.slice A n c, .int .i64 a0], .int .i64 2]) (by simp [results, Tryd.results29, go_sem, d0, d1]) rfl ⟨rfl, ((hbb.setCell (by simp) _).setCell (by simp) _).drew⟩

theorem getUnit_any {w : World} {B n c at_ n' c' fl : Nat} {A A' : Option Addr} {l : List UInt8} {cs : List Int} (h : Rd w B 1 A n (l.map bv)) (hC : CutS w B A' n' cs) (hnc : n ≤ c) (hn : n ≤ 1000000000000000000) (hB : B ≤ w.heap.size) (ha : at_ ≤ n) (hfl : fl ≤ 1) :
    Calls Tryd.prog 29 #[cur A n c at_, .slice A' n' c', .int .i64 fl] w fun e w' => e = .returned (.tuple #[.int .i64 (rdU1 l cs fl at_).1, cur A n c (rdU1 l cs fl at_).2.1, .int .i64 (rdU1 l cs fl at_).2.2]) ∧ Below w.heap.size w w' := by
  have hl := h.blen
  have hf : fl = 0 ∨ fl = 1 := by omega
  rcases hf with rfl | rfl
  · have hx : ∃ v a1 e1, rdU1 l cs 0 at_ = (v, a1, e1) ∧ ((numN (tkL l at_ 1) : Nat) : Int) = (v : Int) ∧ tkAt at_ 1 n = (a1 : Int) ∧ tkE at_ 1 n = e1 := by
      unfold rdU1
      rw [if_pos rfl]
      by_cases h1 : at_ < n
      · obtain ⟨e1, e2, e3⟩ := u8_in hl h1
        rw [if_pos (by omega)]
        exact ⟨_, _, _, rfl, e1, e2, e3⟩
      · obtain rfl : at_ = n := by omega
        obtain ⟨e1, e2, e3⟩ := u8_end hl
        rw [if_neg (by omega)]
        exact ⟨_, _, _, rfl, by rw [e1], e2, e3⟩
    obtain ⟨v, a1, e1, hr, x1, x2, x3⟩ := hx
    rw [hr]
    refine getUnit_one fun W hb => ?_
    have := u8_any (at_ := (at_ : Int)) (h.belowMono hb hB) hnc hn (Nat.le_trans hB hb.size)
    rw [x1, x2, x3] at this
    exact this
  · have HI : ∀ W, Below w.heap.size w W → Calls Tryd.prog 38 #[.slice A' n' c', .int .i64 ((at_ : Int) + 1)] W fun e w' => e = .returned (.bool (cs.contains ((at_ : Int) + 1))) ∧ Below W.heap.size W w' := fun W hb => isCut_any (hC.belowMono hb hB)
    have hU := fun (W : World) (hb : Below w.heap.size w W) => u16_any (at_ := (at_ : Int)) (h.belowMono hb hB) hnc hn (Nat.le_trans hB hb.size)
    unfold rdU1
    rw [if_neg (by decide)]
    by_cases h1 : at_ + 1 < n
    · obtain ⟨e1, e2, e3⟩ := u16_in hl h1
      rw [e1, e2, e3] at hU
      rw [if_pos (by omega)]
      refine getUnit_two (by omega) hU HI ?_
      cases hc : cs.contains ((at_ : Int) + 1)
      · rw [if_neg (by decide)]
        exact .inr (.inl ⟨rfl, rfl, rfl⟩)
      · rw [if_pos rfl]
        exact .inr (.inr ⟨rfl, rfl, rfl⟩)
    · obtain ⟨e1, e2, e3⟩ := u16_end hl ha h1
      rw [e1, e2, e3] at hU
      rw [if_neg (by omega)]
      exact getUnit_two (by omega) hU HI (.inl ⟨by decide, rfl⟩)
end Go.Proofs.YtgepipapppdhfaaDoor
