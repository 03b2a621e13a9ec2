/- The reference's trim, less, up by their contracts. Condition: the digits read as such, and are no more than a thousand. -/
import Derived.Test.YtgepipapppdhfaaGreatDoorRow
namespace Go.Proofs.YtgepipapppdhfaaGreatDoor
open Go.RowKit

theorem Rd.digAt {w : World} {B n i : Nat} {A : Option Addr} {l : List Nat} (h : Rd w B 1 A n (dcs l)) (hi : i < n) :
    ∃ a, A = some a ∧ a.block < B ∧ w.cell? (a.add i) = some (.int .i64 ((l.getD i 0 : Nat) : Int)) := by
  obtain ⟨a, u, ha, hb, hu, hc⟩ := h.cell hi
  refine ⟨a, ha, hb, ?_⟩
  have hl : i < l.length := by rw [← h.dlen]; exact hi
  rw [hc, ← hu]
  simp [dcs, iv, List.getD, List.getElem?_eq_getElem hl]

theorem Rd.top {w : World} {B n j : Nat} {A : Option Addr} {l : List Nat} (h : Rd w B 1 A n (dcs l)) (hj : j ≤ n) : Rd w B 1 A j (dcs (l.take j)) := by
  have hl := h.dlen
  refine ⟨by rw [dcs_len, List.length_take]; omega, fun h0 => ?_⟩
  obtain ⟨a, ha, hb, hc⟩ := h.at_ (by omega)
  refine ⟨a, ha, hb, fun i u hu => hc i u ?_⟩
  rw [← hu]
  have hi : i < j := by
    have := (List.getElem?_eq_some_iff.1 hu).1
    rw [dcs_len, List.length_take] at this
    omega
  simp [dcs, List.getElem?_take, hi]

/-- A number in digits, as a value. -/
def BigV (w : World) (v : Value) (b : Bool) (l : List Nat) : Prop := ∃ A n c, v = .agg #[.bool b, .slice A n c] ∧ n ≤ c ∧ c ≤ maxLen ∧ Rd w w.heap.size 1 A n (dcs l)
theorem BigV.below {w w' : World} {v : Value} {b : Bool} {l : List Nat} (h : BigV w v b l) (hb : Below w.heap.size w w') : BigV w' v b l := by
  obtain ⟨A, n, c, h1, h2, h3, h4⟩ := h
  exact ⟨A, n, c, h1, h2, h3, (h4.below hb).mono hb.size⟩

theorem neat_take {l : List Nat} {j : Nat} (h : neat l = neat (l.take (j + 1))) (hj : j < l.length) (h0 : l.getD j 0 = 0) : neat l = neat (l.take j) := by
  rw [h, ← List.take_append_getElem hj, show l[j] = 0 by simpa [List.getD, List.getElem?_eq_getElem hj] using h0, neat_snoc_zero]
theorem neat_stop {l : List Nat} {j : Nat} (h : neat l = neat (l.take (j + 1))) (hj : j < l.length) (h0 : l.getD j 0 ≠ 0) : neat l = l.take (j + 1) := by
  have e : l[j] ≠ 0 := by simpa [List.getD, List.getElem?_eq_getElem hj] using h0
  rw [h, ← List.take_append_getElem hj, neat_snoc_pos e]

set_option maxHeartbeats 1000000 in
theorem trim_any {w : World} {x : Value} {b : Bool} {l : List Nat} (hx : BigV w x b l) :
    Calls Tryz.prog 45 #[x] w fun e w' => ∃ y, e = .returned y ∧ BigV w' y (b && !(neat l).isEmpty) (neat l) ∧ Below w.heap.size w w' := by
  obtain ⟨A, n, c, rfl, hnc, hcm, h⟩ := hx
  have HL := Lib.hid h.dlen
  have kb := (Bk.new w 51 #[.bool b, .slice A n c]).alloc (.cells #[.bool false, .slice none 0 0] 51)
  have kr := Bk.new (w.alloc (.cells #[.bool b, .slice A n c] 51)) 51 #[.bool false, .slice none 0 0]
  simp only [World.size_alloc] at kr
  have hbel := bel1 w (.cells #[.bool b, .slice A n c] 51) (.cells #[.bool false, .slice none 0 0] 51)
  have hr := (h.below hbel)
  have Hs := Lib.hid (show ((w.alloc (.cells #[.bool b, .slice A n c] 51)).alloc (.cells #[.bool false, .slice none 0 0] 51)).heap.size = w.heap.size + 2 by simp)
  go_enter Tryz.func45, Tryz.ntmps45
  go_wp2
  generalize ((w.alloc (.cells #[.bool b, .slice A n c] 51)).alloc (.cells #[.bool false, .slice none 0 0] 51)) = W at *
  have c0 := kb.cell 0
  have c1 := kb.cell 1
  have z0 := kb.frozen 0
  have z1 := kb.frozen 1
  have y0 := kr.frozen 0
  have y1 := kr.frozen 1
  have r0 := kr.cell 0
  have r1 := kr.cell 1
  go_loop [3] (fun i => ∃ j : Nat, j ≤ n ∧ i = .int .i64 j ∧ Hid (neat l = neat (l.take j))) (fun i => (intOf i).toNat)
  case atStart => exact ⟨n, Nat.le_refl _, rfl, Lib.hid (by rw [List.take_of_length_le (by rw [HL.out]; exact Nat.le_refl _)])⟩
  case round =>
    obtain ⟨j, hj, rfl, HN⟩ := hrel
    cases j with
    | zero =>
      have HE := Lib.hid (show neat l = [] by rw [HN.out]; rfl)
      clear HN
      go_wp2
      refine bodyPost_ret (v := .agg #[.bool false, .slice A 0 c]) (by simp [results, Tryz.results45, go_sem, r0, r1]) rfl ?_
      refine ⟨_, rfl, ⟨A, 0, c, by simp [HE.out], Nat.zero_le _, hcm, by rw [HE.out]; exact Rd.nil _ _ _ _⟩, ?_⟩
      exact (((hbel.setCell (by simp) _).setCell (by simp) _).setCell (by simp) _).setCell (by simp) _
    | succ j =>
      obtain ⟨a, rfl, ha, hc⟩ := hr.digAt (show j < n by omega)
      have hw : wrap64 (j : Int) = (j : Int) := IntWalk.wrap64_in _ ⟨by omega, by unfold maxLen at hcm; omega⟩
      by_cases hd : l.getD j 0 = 0
      · rw [hd] at hc
        have HN2 := Lib.hid (neat_take HN.out (by rw [← HL.out]; omega) hd)
        go_wp2
        go_round
        case rel => exact ⟨j, by omega, by rw [hw], HN2⟩
        case measure =>
          rw [hw]
          show (j : Int).toNat < ((j + 1 : Nat) : Int).toNat
          omega
      · have HE := Lib.hid (neat_stop HN.out (by rw [← HL.out]; omega) hd)
        have hd' : (((l.getD j 0 : Nat) : Int) == 0) = false := by simpa using hd
        clear HN hd
        generalize l.getD j 0 = d at *
        go_wp2
        refine bodyPost_ret (v := .agg #[.bool b, .slice (some a) (j + 1) c]) (by simp [results, Tryz.results45, go_sem, r0, r1]) rfl ?_
        have hb3 := (((Below.refl w.heap.size W).setCell (p := ⟨w.heap.size, 1, none⟩) (by simp) (.slice (some a) (j + 1) c)).setCell (p := ⟨w.heap.size + 1, 0, none⟩) (by simp) (.bool b)).setCell (p := ⟨w.heap.size + 1, 1, none⟩) (by simp) (.slice (some a) (j + 1) c)
        refine ⟨_, rfl, ⟨some a, j + 1, c, ?_, by omega, hcm, ?_⟩, hbel.trans hb3⟩
        · have hne : (neat l).isEmpty = false := by
            rw [HE.out, List.isEmpty_eq_false_iff]
            intro e
            have := congrArg List.length e
            rw [List.length_take, ← HL.out] at this
            simp at this
            omega
          rw [hne]
          simp
        · rw [HE.out]
          exact ((hr.top (by omega)).below hb3).mono (by have := hb3.size; have := Hs.out; omega)
end Go.Proofs.YtgepipapppdhfaaGreatDoor
