/- str.getUnit by its contract. Condition: the bytes and the cuts read as such; the Cursor stands in the bytes; flags are 0 or 1. -/
/- str.getUnits by its contract. Condition: the bytes and the cuts read as such, no cut stands right behind another one; the Cursor stands in the bytes. -/
import Derived.Test.YtlaiocdnddnnaaaGreatDoorAnew
import Derived.Test.YtlaiocdnddnnaaaGreatDoorPut2
set_option linter.unusedVariables false
set_option linter.unusedSimpArgs false
namespace Go.Proofs.YtlaiocdnddnnaaaGreatDoor
open Go.RowKit Go.Lib
def rdU1 (l : List UInt8) (cs : List Int) (fl at_ : Nat) : Nat × Nat × Int :=
  if fl = 0 then (if at_ < l.length then ((l.getD at_ 0).toNat, at_ + 1, 0) else (0, at_, 5))
  else if at_ + 1 < l.length then (if cs.contains ((at_ : Int) + 1) = true then (0, at_, 2) else ((l.getD at_ 0).toNat + 256 * (l.getD (at_ + 1) 0).toNat, at_ + 2, 0))
  else (0, at_, 5)
theorem u16_in {l : List UInt8} {n at_ : Nat} (hl : l.length = n) (h : at_ + 1 < n) : ((numN (tkL l at_ 2) : Nat) : Int) = (((l.getD at_ 0).toNat + 256 * (l.getD (at_ + 1) 0).toNat : Nat) : Int) ∧ tkAt at_ 2 n = ((at_ + 2 : Nat) : Int) ∧ tkE at_ 2 n = 0 := by
  have e : tkE (at_ : Int) 2 n = 0 := by
    unfold tkE stB; rw [if_neg (by rw [decide_eq_true (by omega)]; simp), if_neg (by omega)]
  refine ⟨?_, ?_, e⟩
  · unfold tkL; rw [if_pos (by rw [hl]; exact e)]
    have h1 : (l.drop at_).take 2 = [l.getD at_ 0, l.getD (at_ + 1) 0] := by
      rw [List.getD_eq_getElem?_getD, List.getD_eq_getElem?_getD, List.getElem?_eq_getElem (by omega), List.getElem?_eq_getElem (by omega)]; rw [List.drop_eq_getElem_cons (by omega), List.drop_eq_getElem_cons (by omega)]; rfl
    have h2 : ((l.drop (at_ : Int).toNat).take (2 : Int).toNat) = [l.getD at_ 0, l.getD (at_ + 1) 0] := by simpa using h1
    rw [h2]; simp [numN]
  · unfold tkAt; rw [if_pos e]; omega
theorem u16_end {l : List UInt8} {n at_ : Nat} (hl : l.length = n) (ha : at_ ≤ n) (h : ¬ at_ + 1 < n) : numN (tkL l (at_ : Int) 2) = 0 ∧ tkAt at_ 2 n = (at_ : Int) ∧ tkE at_ 2 n = 5 := by
  have e : tkE (at_ : Int) 2 n = 5 := by
    unfold tkE stB; rw [if_neg (by rw [decide_eq_true (by omega)]; simp), if_pos (by omega)]
  refine ⟨?_, ?_, e⟩
  · unfold tkL; rw [if_neg (by rw [hl, e]; decide)]; rfl
  · unfold tkAt; rw [if_neg (by rw [e]; decide)]
set_option maxHeartbeats 4000000 in
set_option maxRecDepth 100000 in
theorem getUnit_one {w : World} {n c n' c' : Nat} {A A' : Option Addr} {a0 a1 v : Nat} {e1 : Int}
    (HU : ∀ W, Below w.heap.size w W → Calls Tryz.prog 102 #[cur A n c a0] W fun e w' => e = .returned (.tuple #[.int .i64 v, cur A n c a1, .int .i64 e1]) ∧ Below W.heap.size W w') :
    Calls Tryz.prog 138 #[cur A n c a0, .slice A' n' c', .int .i64 0] w fun e w' => e = .returned (.tuple #[.int .i64 v, cur A n c a1, .int .i64 e1]) ∧ Below w.heap.size w w' := by
  unfold cur at *; have HC := Lib.hid (HU _ (two_below w (.cells #[.slice A n c, .int .i64 a0] 82) (.cells #[.slice none 0 0, .int .i64 0] 82))); clear HU; go_enter Tryz.func138, Tryz.ntmps138
  go_wp2_with fail
  refine HC.out.mono ?_; rintro e w1 ⟨rfl, hb1⟩; obtain ⟨k1, k2, hb', s1⟩ := two_boxes hb1; clear HC; have d0 := k2.cell 0; have d1 := k2.cell 1; have z0 := k2.frozen 0; have z1 := k2.frozen 1
  have k2n : Bk ((w1.setCell ⟨w.heap.size + 1, 0, none⟩ (.slice A n c)).setCell ⟨w.heap.size + 1, 1, none⟩ (.int .i64 a1)) (w.heap.size + 1) 82 #[.slice A n c, .int .i64 a1] := by
    have := (k2.set_ 0 (.slice A n c)).set_ 1 (.int .i64 a1)
    simpa using this
  have hbn := (hb'.setCell (p := ⟨w.heap.size + 1, 0, none⟩) (by simp) (.slice A n c)).setCell (p := ⟨w.heap.size + 1, 1, none⟩) (by simp) (.int .i64 a1); go_wp2; have q0 := k2n.cell 0; have q1 := k2n.cell 1; clear d0 d1 z0 z1; exact bodyPost_ret (v := .tuple #[.int .i64 v, .agg #[.slice A n c, .int .i64 a1], .int .i64 e1]) (by simp [results, Tryz.results138, go_sem, q0, q1]) rfl ⟨rfl, hbn⟩
set_option maxHeartbeats 4000000 in
set_option maxRecDepth 100000 in
theorem getUnit_two {w : World} {n c n' c' : Nat} {A A' : Option Addr} {a0 a1 v : Nat} {e1 : Int} {R : Value} {ct : Bool} (ha : a0 ≤ 1000000000000000000)
    (HU : ∀ W, Below w.heap.size w W → Calls Tryz.prog 125 #[cur A n c a0] W fun e w' => e = .returned (.tuple #[.int .i64 v, cur A n c a1, .int .i64 e1]) ∧ Below W.heap.size W w')
    (HI : ∀ W, Below w.heap.size w W → Calls Tryz.prog 143 #[.slice A' n' c', .int .i64 ((a0 : Int) + 1)] W fun e w' => e = .returned (.bool ct) ∧ Below W.heap.size W w')
    (hR : (e1 ≠ 0 ∧ R = .tuple #[.int .i64 v, cur A n c a1, .int .i64 e1]) ∨ (e1 = 0 ∧ ct = false ∧ R = .tuple #[.int .i64 v, cur A n c a1, .int .i64 0]) ∨ (e1 = 0 ∧ ct = true ∧ R = .tuple #[.int .i64 0, cur A n c a0, .int .i64 2])) :
    Calls Tryz.prog 138 #[cur A n c a0, .slice A' n' c', .int .i64 1] w fun e w' => e = .returned R ∧ Below w.heap.size w w' := by
  unfold cur at *; have HC := Lib.hid (HU _ (two_below w (.cells #[.slice A n c, .int .i64 a0] 82) (.cells #[.slice none 0 0, .int .i64 0] 82))); have HJ := Lib.hid HI; clear HU HI
  rcases hR with ⟨h0, rfl⟩ | ⟨rfl, rfl, rfl⟩ | ⟨rfl, rfl, rfl⟩
  · go_enter Tryz.func138, Tryz.ntmps138
    go_wp2_with fail
    refine HC.out.mono ?_; rintro e w1 ⟨rfl, hb1⟩; obtain ⟨k1, k2, hb', s1⟩ := two_boxes hb1; clear HC; have k1' := k1.alloc (.cells #[.slice A n c, .int .i64 a1] 82); have k2' := k2.alloc (.cells #[.slice A n c, .int .i64 a1] 82); have k3 := Bk.new w1 82 #[.slice A n c, .int .i64 a1]; have hbW := hb'.alloc hb'.size (.cells #[.slice A n c, .int .i64 a1] 82); have hsz1 := k1'.lt; have hsz2 := k2'.lt; have hsz3 := k3.lt; go_wp2; have k1b := k1'; have k2b := k2'; have k3b := k3; have hbb := hbW; clear k1' k2' k3 hbW HJ; generalize w1.alloc (.cells #[.slice A n c, .int .i64 a1] 82) = w2 at *; have f0 := k3b.cell 0; have f1 := k3b.cell 1; have d0 := k2b.cell 0; have d1 := k2b.cell 1; have z0 := k2b.frozen 0; have z1 := k2b.frozen 1
    go_region
    all_goals
      go_wp2; exact bodyPost_ret (v := .tuple #[.int .i64 v, .agg #[.slice A n c, .int .i64 a1], .int .i64 e1]) (by simp [results, Tryz.results138, go_sem, d0, d1]) rfl ⟨rfl, ((hbb.setCell (by simp) _).setCell (by simp) _).drew⟩
  · go_enter Tryz.func138, Tryz.ntmps138
    go_wp2_with fail
    refine HC.out.mono ?_; rintro e w1 ⟨rfl, hb1⟩; obtain ⟨k1, k2, hb', s1⟩ := two_boxes hb1; clear HC; have k1' := k1.alloc (.cells #[.slice A n c, .int .i64 a1] 82); have k2' := k2.alloc (.cells #[.slice A n c, .int .i64 a1] 82); have k3 := Bk.new w1 82 #[.slice A n c, .int .i64 a1]; have hbW := hb'.alloc hb'.size (.cells #[.slice A n c, .int .i64 a1] 82); have hsz1 := k1'.lt; have hsz2 := k2'.lt; have hsz3 := k3.lt; have g0 := k1'.cell 0; have g1 := k1'.cell 1
    go_wp2_with fail
    refine (HJ.out _ hbW).mono ?_; rintro e w2 ⟨rfl, hb2⟩; clear g0 g1 HJ; have k1b := k1'.below hb2 hsz1; have k2b := k2'.below hb2 hsz2; have k3b := k3.below hb2 hsz3; have hbb := hbW.trans (hb2.mono hbW.size); clear k1' k2' k3 hbW hb2 hsz1 hsz2 hsz3; go_wp2; have f0 := k3b.cell 0; have f1 := k3b.cell 1; have d0 := k2b.cell 0; have d1 := k2b.cell 1; have z0 := k2b.frozen 0; have z1 := k2b.frozen 1
    go_region
    all_goals
      go_wp2; exact bodyPost_ret (v := .tuple #[.int .i64 v, .agg #[.slice A n c, .int .i64 a1], .int .i64 0]) (by simp [results, Tryz.results138, go_sem, d0, d1]) rfl ⟨rfl, ((hbb.setCell (by simp) _).setCell (by simp) _).drew⟩
  · go_enter Tryz.func138, Tryz.ntmps138
    go_wp2_with fail
    refine HC.out.mono ?_; rintro e w1 ⟨rfl, hb1⟩; obtain ⟨k1, k2, hb', s1⟩ := two_boxes hb1; clear HC; have k1' := k1.alloc (.cells #[.slice A n c, .int .i64 a1] 82); have k2' := k2.alloc (.cells #[.slice A n c, .int .i64 a1] 82); have k3 := Bk.new w1 82 #[.slice A n c, .int .i64 a1]; have hbW := hb'.alloc hb'.size (.cells #[.slice A n c, .int .i64 a1] 82); have hsz1 := k1'.lt; have hsz2 := k2'.lt; have hsz3 := k3.lt; have g0 := k1'.cell 0; have g1 := k1'.cell 1
    go_wp2_with fail
    refine (HJ.out _ hbW).mono ?_; rintro e w2 ⟨rfl, hb2⟩; clear g0 g1 HJ; have k1b := k1'.below hb2 hsz1; have k2b := k2'.below hb2 hsz2; have k3b := k3.below hb2 hsz3; have hbb := hbW.trans (hb2.mono hbW.size); clear k1' k2' k3 hbW hb2 hsz1 hsz2 hsz3; go_wp2; have f0 := k1b.cell 0; have f1 := k1b.cell 1; have d0 := k2b.cell 0; have d1 := k2b.cell 1; have z0 := k2b.frozen 0; have z1 := k2b.frozen 1
    go_region
    all_goals
      go_wp2; exact bodyPost_ret (v := .tuple #[.int .i64 0, .agg #[.slice A n c, .int .i64 a0], .int .i64 2]) (by simp [results, Tryz.results138, go_sem, d0, d1]) rfl ⟨rfl, ((hbb.setCell (by simp) _).setCell (by simp) _).drew⟩
theorem getUnit_any {w : World} {B n c at_ n' c' fl : Nat} {A A' : Option Addr} {l : List UInt8} {cs : List Int} (h : Rd w B 1 A n (l.map bv)) (hC : CutS w B A' n' cs) (hnc : n ≤ c) (hn : n ≤ 1000000000000000000) (hB : B ≤ w.heap.size) (ha : at_ ≤ n) (hfl : fl ≤ 1) :
    Calls Tryz.prog 138 #[cur A n c at_, .slice A' n' c', .int .i64 fl] w fun e w' => e = .returned (.tuple #[.int .i64 (rdU1 l cs fl at_).1, cur A n c (rdU1 l cs fl at_).2.1, .int .i64 (rdU1 l cs fl at_).2.2]) ∧ Below w.heap.size w w' := by
  have hl := h.blen; have hf : fl = 0 ∨ fl = 1 := by omega
  rcases hf with rfl | rfl
  · have hx : ∃ v a1 e1, rdU1 l cs 0 at_ = (v, a1, e1) ∧ ((numN (tkL l at_ 1) : Nat) : Int) = (v : Int) ∧ tkAt at_ 1 n = (a1 : Int) ∧ tkE at_ 1 n = e1 := by
      unfold rdU1; rw [if_pos rfl]
      by_cases h1 : at_ < n
      · obtain ⟨e1, e2, e3⟩ := u8_in hl h1; rw [if_pos (by omega)]; exact ⟨_, _, _, rfl, e1, e2, e3⟩
      · obtain rfl : at_ = n := by omega
        obtain ⟨e1, e2, e3⟩ := u8_end hl; rw [if_neg (by omega)]; exact ⟨_, _, _, rfl, by rw [e1], e2, e3⟩
    obtain ⟨v, a1, e1, hr, x1, x2, x3⟩ := hx; rw [hr]; refine getUnit_one fun W hb => ?_; have := u8_any (at_ := (at_ : Int)) (h.belowMono hb hB) hnc hn (Nat.le_trans hB hb.size); rw [x1, x2, x3] at this; exact this
  · have HI : ∀ W, Below w.heap.size w W → Calls Tryz.prog 143 #[.slice A' n' c', .int .i64 ((at_ : Int) + 1)] W fun e w' => e = .returned (.bool (cs.contains ((at_ : Int) + 1))) ∧ Below W.heap.size W w' := fun W hb => isCut_any (hC.belowMono hb hB); have hU := fun (W : World) (hb : Below w.heap.size w W) => u16_any (at_ := (at_ : Int)) (h.belowMono hb hB) hnc hn (Nat.le_trans hB hb.size); unfold rdU1; rw [if_neg (by decide)]
    by_cases h1 : at_ + 1 < n
    · obtain ⟨e1, e2, e3⟩ := u16_in hl h1; rw [e1, e2, e3] at hU; rw [if_pos (by omega)]; refine getUnit_two (by omega) hU HI ?_
      cases hc : cs.contains ((at_ : Int) + 1)
      · rw [if_neg (by decide)]; exact .inr (.inl ⟨rfl, rfl, rfl⟩)
      · rw [if_pos rfl]; exact .inr (.inr ⟨rfl, rfl, rfl⟩)
    · obtain ⟨e1, e2, e3⟩ := u16_end hl ha h1; rw [e1, e2, e3] at hU; rw [if_neg (by omega)]; exact getUnit_two (by omega) hU HI (.inl ⟨by decide, rfl⟩)
end Go.Proofs.YtlaiocdnddnnaaaGreatDoor
namespace Go.Proofs.YtlaiocdnddnnaaaGreatDoor
open Go.RowKit Go.Lib
def rv (x : Int) : Value := .int .i32 x
theorem runesRow : ElemRow Tryz.prog 199 21 (.int .i32 0) 1 4 := by
  obtain ⟨i, hi, h0, h1, h2⟩ := info_parts (P := Tryz.prog) (e := 21) (z := .int .i32 0) (size := 1) (bytes := 4) (by kernel_rfl); exact ⟨Tryz.underlying199, ⟨i, hi, h0, h1, h2⟩, rfl, by omega⟩
def rdUs (l : List UInt8) (cs : List Int) : Nat → Nat → Nat → List Int × Nat × Int
  | 0, _, at_ => ([], at_, 0)
  | k + 1, fl, at_ =>
    if (rdA l cs fl at_).2.2 = 0 then
      if (rdU1 l cs (rdA l cs fl at_).1 (rdA l cs fl at_).2.1).2.2 = 0 then
        (((rdU1 l cs (rdA l cs fl at_).1 (rdA l cs fl at_).2.1).1 : Int) :: (rdUs l cs k (rdA l cs fl at_).1 (rdU1 l cs (rdA l cs fl at_).1 (rdA l cs fl at_).2.1).2.1).1, (rdUs l cs k (rdA l cs fl at_).1 (rdU1 l cs (rdA l cs fl at_).1 (rdA l cs fl at_).2.1).2.1).2)
      else ([], 0, (rdU1 l cs (rdA l cs fl at_).1 (rdA l cs fl at_).2.1).2.2)
    else ([], 0, (rdA l cs fl at_).2.2)
def rdAll (l : List UInt8) (cs : List Int) (at_ : Nat) : List Int × Nat × Int :=
  if at_ + 1 < l.length then
    if 1000 < (l.getD at_ 0).toNat + 256 * (l.getD (at_ + 1) 0).toNat then ([], 0, 4)
    else if (rdF l (at_ + 2)).2.2 = 0 then rdUs l cs ((l.getD at_ 0).toNat + 256 * (l.getD (at_ + 1) 0).toNat) (rdF l (at_ + 2)).1 (rdF l (at_ + 2)).2.1
    else ([], 0, (rdF l (at_ + 2)).2.2)
  else ([], 0, 5)
theorem byte_lt (l : List UInt8) (i : Nat) : (l.getD i 0).toNat < 256 := (l.getD i 0).toNat_lt
theorem rdF_le (l : List UInt8) (at_ : Nat) (h : at_ ≤ l.length) : (rdF l at_).2.1 ≤ l.length ∧ (rdF l at_).1 ≤ 1 := by
  unfold rdF
  by_cases h1 : at_ < l.length
  · rw [if_pos h1]
    by_cases h2 : (l.getD at_ 0).toNat ≤ 1
    · rw [if_pos h2]; exact ⟨h1, h2⟩
    · rw [if_neg h2]; exact ⟨h, by simp⟩
  · rw [if_neg h1]; exact ⟨h, by simp⟩
theorem rdA_le (l : List UInt8) (cs : List Int) (fl at_ : Nat) (h : at_ ≤ l.length) (hf : fl ≤ 1) : (rdA l cs fl at_).2.1 ≤ l.length ∧ (rdA l cs fl at_).1 ≤ 1 := by
  unfold rdA
  split
  · exact rdF_le l at_ h
  · exact ⟨h, hf⟩
theorem rdU1_le (l : List UInt8) (cs : List Int) (fl at_ : Nat) (h : at_ ≤ l.length) : (rdU1 l cs fl at_).2.1 ≤ l.length ∧ (rdU1 l cs fl at_).1 ≤ 65535 := by
  have b0 := byte_lt l at_; have b1 := byte_lt l (at_ + 1); unfold rdU1
  by_cases h0 : fl = 0
  · rw [if_pos h0]
    by_cases h1 : at_ < l.length
    · rw [if_pos h1]; exact ⟨h1, by simp only; omega⟩
    · rw [if_neg h1]; exact ⟨h, by simp⟩
  · rw [if_neg h0]
    by_cases h1 : at_ + 1 < l.length
    · rw [if_pos h1]
      split
      · exact ⟨h, by simp⟩
      · exact ⟨h1, by simp only; omega⟩
    · rw [if_neg h1]; exact ⟨h, by simp⟩
theorem own_set {w : World} {base g i k : Nat} {e t : TypeId} {v u : Value} {l : List Value} {cs : Array Value} (ho : w.ownsRow base e 1 v k l) (hk : Bk w g t cs) (hne : e ≠ t) : (w.setCell ⟨g, i, none⟩ u).ownsRow base e 1 v k l := by
  have hb := own_ne ho hk hne; refine ⟨ho.1, ?_⟩
  rcases ho.2 with h2 | ⟨b, cap, cr, rfl, hb1, hh, r⟩
  · exact .inl h2
  · refine .inr ⟨b, cap, cr, rfl, hb1, ?_, r⟩
    rw [Below.heap_setCell w ⟨g, i, none⟩ u b (by
      rintro rfl
      exact hb rfl)]
    exact hh
theorem own_cursor {w : World} {base g k : Nat} {v : Value} {l : List Value} {cs : Array Value} (ho : w.ownsRow base 21 1 v k l) (hk : Bk w g 82 cs) (a b : Value) : ((w.setCell ⟨g, 0, none⟩ a).setCell ⟨g, 1, none⟩ b).ownsRow base 21 1 v k l :=
  own_set (own_set ho hk (by decide)) (hk.set_ 0 a) (by decide)
theorem own_drew {w : World} {base k n : Nat} {e : TypeId} {v : Value} {l : List Value} (ho : w.ownsRow base e k v n l) : w.drew.ownsRow base e k v n l := ho
theorem rdUs_step (l : List UInt8) (cs : List Int) (k fl at_ : Nat) (acc : List Int) {T : List Int × Nat × Int} (h : (acc ++ (rdUs l cs (k + 1) fl at_).1, (rdUs l cs (k + 1) fl at_).2) = T)
    (h1 : (rdA l cs fl at_).2.2 = 0) (h2 : (rdU1 l cs (rdA l cs fl at_).1 (rdA l cs fl at_).2.1).2.2 = 0) :
    ((acc ++ [((rdU1 l cs (rdA l cs fl at_).1 (rdA l cs fl at_).2.1).1 : Int)]) ++ (rdUs l cs k (rdA l cs fl at_).1 (rdU1 l cs (rdA l cs fl at_).1 (rdA l cs fl at_).2.1).2.1).1, (rdUs l cs k (rdA l cs fl at_).1 (rdU1 l cs (rdA l cs fl at_).1 (rdA l cs fl at_).2.1).2.1).2) = T := by
  rw [rdUs, if_pos h1, if_pos h2] at h; rw [← h]; simp
theorem rdUs_bad1 (l : List UInt8) (cs : List Int) (k fl at_ : Nat) (acc : List Int) {T : List Int × Nat × Int} (h : (acc ++ (rdUs l cs (k + 1) fl at_).1, (rdUs l cs (k + 1) fl at_).2) = T)
    (h1 : (rdA l cs fl at_).2.2 ≠ 0) : T.2.2 = (rdA l cs fl at_).2.2 := by
  rw [rdUs, if_neg h1] at h; rw [← h]
theorem rdUs_bad2 (l : List UInt8) (cs : List Int) (k fl at_ : Nat) (acc : List Int) {T : List Int × Nat × Int} (h : (acc ++ (rdUs l cs (k + 1) fl at_).1, (rdUs l cs (k + 1) fl at_).2) = T)
    (h1 : (rdA l cs fl at_).2.2 = 0) (h2 : (rdU1 l cs (rdA l cs fl at_).1 (rdA l cs fl at_).2.1).2.2 ≠ 0) : T.2.2 = (rdU1 l cs (rdA l cs fl at_).1 (rdA l cs fl at_).2.1).2.2 := by
  rw [rdUs, if_pos h1, if_neg h2] at h; rw [← h]
def GotU (base : Nat) (A : Option Addr) (n c : Nat) (T : List Int × Nat × Int) (e : Ending) (w' : World) : Prop :=
  (T.2.2 ≠ 0 ∧ ∃ x : Nat, e = .returned (.tuple #[.slice none 0 0, cur A n c x, .int .i64 T.2.2])) ∨
  (T.2.2 = 0 ∧ ∃ v k, e = .returned (.tuple #[v, cur A n c T.2.1, .int .i64 0]) ∧ w'.ownsRow base 21 1 v k (T.1.map rv) ∧ k ≤ 1000)
set_option maxHeartbeats 8000000 in
set_option maxRecDepth 100000 in
theorem getUnits_any {w : World} {B n c at_ n' c' : Nat} {A A' : Option Addr} {l : List UInt8} {cs : List Int} (h : Rd w B 1 A n (l.map bv)) (hC : CutS w B A' n' cs) (hnc : n ≤ c) (hn : n ≤ 1000000000000000000) (hB : B ≤ w.heap.size) (ha : at_ ≤ n) (hna : ∀ x : Int, cs.contains x = true → cs.contains (x + 1) = false) :
    Calls Tryz.prog 131 #[cur A n c at_, .slice A' n' c'] w fun e w' => GotU w.heap.size A n c (rdAll l cs at_) e w' ∧ Below w.heap.size w w' := by
  have hl := h.blen; have hbel0 := two_below w (.cells #[.slice A n c, .int .i64 at_] 82) (.cells #[.slice none 0 0, .int .i64 0] 82); have hU := Lib.hid (fun (W : World) (hb : Below w.heap.size w W) => u16_any (at_ := (at_ : Int)) (h.belowMono hb hB) hnc hn (Nat.le_trans hB hb.size))
  by_cases h1 : at_ + 1 < n
  · obtain ⟨e1, e2, e3⟩ := u16_in hl h1; have hU2 := hU.out; rw [e1, e2, e3] at hU2; clear hU e1 e2 e3; obtain ⟨p2, hp2⟩ : ∃ p2, at_ + 2 = p2 := ⟨_, rfl⟩
    rw [hp2] at hU2; have HU := Lib.hid hU2; clear hU2; have eR : rdAll l cs at_ = if 1000 < (l.getD at_ 0).toNat + 256 * (l.getD (at_ + 1) 0).toNat then ([], 0, 4) else if (rdF l (at_ + 2)).2.2 = 0 then rdUs l cs ((l.getD at_ 0).toNat + 256 * (l.getD (at_ + 1) 0).toNat) (rdF l (at_ + 2)).1 (rdF l (at_ + 2)).2.1 else ([], 0, (rdF l (at_ + 2)).2.2) := by unfold rdAll; rw [if_pos (by omega)]
    rw [hp2] at eR; rw [eR]; clear eR; generalize (l.getD at_ 0).toNat + 256 * (l.getD (at_ + 1) 0).toNat = K at *
    by_cases hK : 1000 < K
    · rw [if_pos hK]; clear hC h hna; unfold cur at *; go_enter Tryz.func131, Tryz.ntmps131
      go_wp2_with fail
      refine (HU.out _ hbel0).mono ?_; rintro e w1 ⟨rfl, hb1⟩; obtain ⟨k2, k5, hbel, s1⟩ := two_boxes hb1; clear HU; have hK' : (1000 : Int) < (K : Int) := by omega
      have z0 := k2.frozen 0; have z1 := k2.frozen 1; have f0 := k2.cell 0; have f1 := k2.cell 1
      have k2n : Bk ((w1.setCell ⟨w.heap.size, 0, none⟩ (.slice A n c)).setCell ⟨w.heap.size, 1, none⟩ (.int .i64 (p2 : Int))) w.heap.size 82 #[.slice A n c, .int .i64 (p2 : Int)] := by
        have := (k2.set_ 0 (.slice A n c)).set_ 1 (.int .i64 (p2 : Int))
        simpa using this
      have k5n : Bk ((w1.setCell ⟨w.heap.size, 0, none⟩ (.slice A n c)).setCell ⟨w.heap.size, 1, none⟩ (.int .i64 (p2 : Int))) (w.heap.size + 1) 82 #[.slice none 0 0, .int .i64 0] := (k5.setOther (by simp) _).setOther (by simp) _; have hbeln := (hbel.setCell (p := ⟨w.heap.size, 0, none⟩) (Nat.le_refl _) (.slice A n c)).setCell (p := ⟨w.heap.size, 1, none⟩) (Nat.le_refl _) (.int .i64 (p2 : Int)); go_wp2; clear z0 z1 f0 f1; have q0 := k2n.cell 0; have q1 := k2n.cell 1; have d0 := k5n.cell 0; have d1 := k5n.cell 1; have y0 := k5n.frozen 0; have y1 := k5n.frozen 1
      go_region
      all_goals
        go_wp2; exact bodyPost_ret (v := .tuple #[.slice none 0 0, .agg #[.slice A n c, .int .i64 (p2 : Int)], .int .i64 4]) (by simp [results, Tryz.results131, go_sem, d0, d1]) rfl ⟨.inl ⟨by decide, p2, rfl⟩, ((hbeln.setCell (by simp) _).setCell (by simp) _).drew⟩
    · rw [if_neg hK]; have hK' : ¬ (1000 : Int) < (K : Int) := by omega
      have HF := Lib.hid (fun (W : World) (hb : Below w.heap.size w W) => getFlags_any (at_ := p2) (h.belowMono hb hB) hnc hn (Nat.le_trans hB hb.size) (by omega)); have hle := rdF_le l p2 (by omega); generalize hRF : rdF l p2 = RF at *; obtain ⟨fl, a1, e1⟩ := RF; simp only at *
      by_cases he1 : e1 = 0
      · subst he1; rw [if_pos rfl]; obtain ⟨hle1, hfl⟩ := hle; obtain ⟨T, hT⟩ : ∃ T, rdUs l cs K fl a1 = T := ⟨_, rfl⟩
        rw [hT]; have HT := Lib.hid hT; clear hT hRF; have HA := Lib.hid (fun (W : World) (fl at_ : Nat) (hb : Below w.heap.size w W) (ha : at_ ≤ n) => anew_any (fl := fl) (c' := c') (h.belowMono hb hB) (hC.belowMono hb hB) hnc hn (Nat.le_trans hB hb.size) ha (fun hx => by have := hna _ hx; simpa using this)); have HN := Lib.hid (fun (W : World) (fl at_ : Nat) (hb : Below w.heap.size w W) (ha : at_ ≤ n) (hf : fl ≤ 1) => getUnit_any (c' := c') (h.belowMono hb hB) (hC.belowMono hb hB) hnc hn (Nat.le_trans hB hb.size) ha hf); have HL := Lib.hid hl; rw [hl] at hle1; clear hC h hna hl h1; unfold cur at HF HA HN ⊢; go_enter Tryz.func131, Tryz.ntmps131
        go_wp2_with fail
        refine (HU.out _ hbel0).mono ?_; rintro e w1 ⟨rfl, hb1⟩; obtain ⟨k2, k5, hbel, s1⟩ := two_boxes hb1; clear HU hb1 hbel0; have z0 := k2.frozen 0; have z1 := k2.frozen 1; have f0 := k2.cell 0; have f1 := k2.cell 1
        have k2n : Bk ((w1.setCell ⟨w.heap.size, 0, none⟩ (.slice A n c)).setCell ⟨w.heap.size, 1, none⟩ (.int .i64 (p2 : Int))) w.heap.size 82 #[.slice A n c, .int .i64 (p2 : Int)] := by
          have := (k2.set_ 0 (.slice A n c)).set_ 1 (.int .i64 (p2 : Int))
          simpa using this
        have k5n : Bk ((w1.setCell ⟨w.heap.size, 0, none⟩ (.slice A n c)).setCell ⟨w.heap.size, 1, none⟩ (.int .i64 (p2 : Int))) (w.heap.size + 1) 82 #[.slice none 0 0, .int .i64 0] := (k5.setOther (by simp) _).setOther (by simp) _; have hbeln := (hbel.setCell (p := ⟨w.heap.size, 0, none⟩) (Nat.le_refl _) (.slice A n c)).setCell (p := ⟨w.heap.size, 1, none⟩) (Nat.le_refl _) (.int .i64 (p2 : Int)); have q0 := k2n.cell 0; have q1 := k2n.cell 1
        go_wp2_with fail
        clear z0 z1 f0 f1 k2 k5 hbel; have hs2 := k2n.lt; have hs5 := k5n.lt; generalize hW2 : (w1.setCell ⟨w.heap.size, 0, none⟩ (.slice A n c)).setCell ⟨w.heap.size, 1, none⟩ (.int .i64 (p2 : Int)) = w2 at *; clear hW2 w1 s1; refine (HF.out _ hbeln).mono ?_; rintro e w3 ⟨rfl, hb3⟩; have k2 := k2n.below hb3 hs2; have k5 := k5n.below hb3 hs5; have hbel := hbeln.trans (hb3.mono hbeln.size); clear HF q0 q1 k2n k5n hbeln hb3 hs2 hs5; have z0 := k2.frozen 0; have z1 := k2.frozen 1; have f0 := k2.cell 0; have f1 := k2.cell 1
        have k2n : Bk ((w3.setCell ⟨w.heap.size, 0, none⟩ (.slice A n c)).setCell ⟨w.heap.size, 1, none⟩ (.int .i64 (a1 : Int))) w.heap.size 82 #[.slice A n c, .int .i64 (a1 : Int)] := by
          have := (k2.set_ 0 (.slice A n c)).set_ 1 (.int .i64 (a1 : Int))
          simpa using this
        have k5n : Bk ((w3.setCell ⟨w.heap.size, 0, none⟩ (.slice A n c)).setCell ⟨w.heap.size, 1, none⟩ (.int .i64 (a1 : Int))) (w.heap.size + 1) 82 #[.slice none 0 0, .int .i64 0] := (k5.setOther (by simp) _).setOther (by simp) _; have hbeln := (hbel.setCell (p := ⟨w.heap.size, 0, none⟩) (Nat.le_refl _) (.slice A n c)).setCell (p := ⟨w.heap.size, 1, none⟩) (Nat.le_refl _) (.int .i64 (a1 : Int)); go_wp2; clear z0 z1 f0 f1 k2 k5 hbel; generalize hW2 : (w3.setCell ⟨w.heap.size, 0, none⟩ (.slice A n c)).setCell ⟨w.heap.size, 1, none⟩ (.int .i64 (a1 : Int)) = w4 at *; clear hW2 w3
        go_loopw [9, 10, 36] (fun s9 s10 s36 wr => ∃ (i f a q : Nat) (acc : List Int), s36 = .int .i64 i ∧ s9 = .int .i64 f ∧ i ≤ K ∧ f ≤ 1 ∧ a ≤ n ∧ q = i ∧ wr.ownsRow w.heap.size 21 1 s10 q (acc.map rv) ∧ Bk wr w.heap.size 82 #[.slice A n c, .int .i64 a] ∧ Bk wr (w.heap.size + 1) 82 #[.slice none 0 0, .int .i64 0] ∧ Below w.heap.size w wr ∧ Hid ((acc ++ (rdUs l cs (K - i) f a).1, (rdUs l cs (K - i) f a).2) = T)) (fun _ _ s36 _ => K - (Go.RowKit.intOf s36).toNat)
        case atStart => exact ⟨0, fl, a1, 0, [], rfl, rfl, by omega, hfl, hle1, rfl, World.ownsRow_nil _ _ _ _, k2n, k5n, hbeln, Lib.hid (by simpa using HT.out)⟩
        case round =>
          obtain ⟨i, f, a, q, acc, rfl, rfl, hi, hf, haa, hq, ho, hk2, hk5, hbel, HS⟩ := hrel; have hs2 := hk2.lt; have hs5 := hk5.lt
          by_cases hiK : i < K
          · have hi1 : (i : Int) < (K : Int) := by omega
            have HAc := HA.out wr f a hbel haa; have HNc := HN.out; have hleA := rdA_le l cs f a (by rw [HL.out]; exact haa) hf; have HB1 := Lib.hid (rdUs_bad1 l cs (K - i - 1) f a acc (T := T) (by rw [show K - i - 1 + 1 = K - i by omega]; exact HS.out)); have HB2 := Lib.hid (rdUs_bad2 l cs (K - i - 1) f a acc (T := T) (by rw [show K - i - 1 + 1 = K - i by omega]; exact HS.out)); have HST := Lib.hid (rdUs_step l cs (K - i - 1) f a acc (T := T) (by rw [show K - i - 1 + 1 = K - i by omega]; exact HS.out)); clear HS; generalize rdA l cs f a = RA at *; obtain ⟨fl1, b1, e1⟩ := RA; simp only at HAc HB1 HB2 HST hleA; obtain ⟨hb1n, hf1⟩ := hleA; rw [HL.out] at hb1n; have hleU := rdU1_le l cs fl1 b1 (by rw [HL.out]; exact hb1n); have HNd := Lib.hid (fun (W : World) (hb : Below w.heap.size w W) => HNc W fl1 b1 hb hb1n hf1); clear HNc; generalize rdU1 l cs fl1 b1 = RU at *; obtain ⟨u, b2, e2⟩ := RU; simp only at HNd HB2 HST hleU; obtain ⟨hb2n, hu⟩ := hleU; rw [HL.out] at hb2n; have HAd := Lib.hid HAc; clear HAc; have f0 := hk2.cell 0; have f1' := hk2.cell 1
            by_cases he1 : e1 = 0
            · subst he1
              by_cases he2 : e2 = 0
              · subst he2; have HST2 := Lib.hid (HST.out rfl rfl); clear HST HB1 HB2
                go_wp2_with fail
                refine HAd.out.mono ?_; rintro e w5 ⟨rfl, hb5⟩; clear HAd f0 f1'; have k2 := hk2.below hb5 hs2; have k5 := hk5.below hb5 hs5; have o5 := own_below ho hb5; have hbel5 := hbel.trans (hb5.mono hbel.size); clear ho hk2 hk5 hbel hb5 hs2 hs5; have z0 := k2.frozen 0; have z1 := k2.frozen 1; have f0 := k2.cell 0; have f1 := k2.cell 1
                have k2n : Bk ((w5.setCell ⟨w.heap.size, 0, none⟩ (.slice A n c)).setCell ⟨w.heap.size, 1, none⟩ (.int .i64 (b1 : Int))) w.heap.size 82 #[.slice A n c, .int .i64 (b1 : Int)] := by
                  have := (k2.set_ 0 (.slice A n c)).set_ 1 (.int .i64 (b1 : Int))
                  simpa using this
                have k5n : Bk ((w5.setCell ⟨w.heap.size, 0, none⟩ (.slice A n c)).setCell ⟨w.heap.size, 1, none⟩ (.int .i64 (b1 : Int))) (w.heap.size + 1) 82 #[.slice none 0 0, .int .i64 0] := (k5.setOther (by simp) _).setOther (by simp) _; have hbeln := (hbel5.setCell (p := ⟨w.heap.size, 0, none⟩) (Nat.le_refl _) (.slice A n c)).setCell (p := ⟨w.heap.size, 1, none⟩) (Nat.le_refl _) (.int .i64 (b1 : Int)); have hon := own_cursor o5 k2 (.slice A n c) (.int .i64 (b1 : Int)); have q0 := k2n.cell 0; have q1 := k2n.cell 1
                go_wp2_with fail
                clear z0 z1 f0 f1 k2 k5 hbel5 o5; generalize hW2 : (w5.setCell ⟨w.heap.size, 0, none⟩ (.slice A n c)).setCell ⟨w.heap.size, 1, none⟩ (.int .i64 (b1 : Int)) = w6 at *; clear hW2 w5; have hs2 := k2n.lt; have hs5 := k5n.lt; refine (HNd.out _ hbeln).mono ?_; rintro e w7 ⟨rfl, hb7⟩; clear HNd q0 q1; have k2 := k2n.below hb7 hs2; have k5 := k5n.below hb7 hs5; have o7 := own_below hon hb7; have hbel7 := hbeln.trans (hb7.mono hbeln.size); clear hon k2n k5n hbeln hb7 hs2 hs5; have z0 := k2.frozen 0; have z1 := k2.frozen 1; have f0 := k2.cell 0; have f1 := k2.cell 1
                have k2n : Bk ((w7.setCell ⟨w.heap.size, 0, none⟩ (.slice A n c)).setCell ⟨w.heap.size, 1, none⟩ (.int .i64 (b2 : Int))) w.heap.size 82 #[.slice A n c, .int .i64 (b2 : Int)] := by
                  have := (k2.set_ 0 (.slice A n c)).set_ 1 (.int .i64 (b2 : Int))
                  simpa using this
                have k5n : Bk ((w7.setCell ⟨w.heap.size, 0, none⟩ (.slice A n c)).setCell ⟨w.heap.size, 1, none⟩ (.int .i64 (b2 : Int))) (w.heap.size + 1) 82 #[.slice none 0 0, .int .i64 0] := (k5.setOther (by simp) _).setOther (by simp) _; have hbeln := (hbel7.setCell (p := ⟨w.heap.size, 0, none⟩) (Nat.le_refl _) (.slice A n c)).setCell (p := ⟨w.heap.size, 1, none⟩) (Nat.le_refl _) (.int .i64 (b2 : Int)); have hon := own_cursor o7 k2 (.slice A n c) (.int .i64 (b2 : Int)); have hw32 : IntKind.i32.wrap (u : Int) = (u : Int) := IntWalk.i32_in _ (by omega)
                have hfr : Rd (((w7.setCell ⟨w.heap.size, 0, none⟩ (.slice A n c)).setCell ⟨w.heap.size, 1, none⟩ (.int .i64 (b2 : Int))).alloc (.cells #[.int .i32 (u : Int)] 21)) (w7.heap.size + 1) 1 (some ⟨w7.heap.size, 0, none⟩) 1 [.int .i32 (u : Int)] := by
                  have := Rd.fresh ((w7.setCell ⟨w.heap.size, 0, none⟩ (.slice A n c)).setCell ⟨w.heap.size, 1, none⟩ (.int .i64 (b2 : Int))) 21 1 1 [.int .i32 (u : Int)] rfl
                  simpa using this
                go_wp2_with (at_builtin; refine wpList_app runesRow rfl (.tmp 62) (.tmp 65) rfl rfl rfl (hon.alloc _) hfr ?_ ?_ ?_ ?_ ?_)
                · intro u hu; simp at hu; subst hu; rfl
                · unfold maxLen; omega
                · omega
                · exact Nat.le_trans hbeln.size (by simp)
                intro v9 w9 o9 g9 b9; have k2z := g9.bk (hon.alloc _) (k2n.alloc _) (by decide); have k5z := g9.bk (hon.alloc _) (k5n.alloc _) (by decide); have hbel9 := (hbeln.alloc hbeln.size _).trans b9
                have o9' : w9.ownsRow w.heap.size 21 1 v9 (i + 1) ((acc ++ [(u : Int)]).map rv) := by
                  rw [List.map_append, List.map_cons, List.map_nil]; exact o9
                clear o9 g9 b9 hon k2n k5n hbeln hw32 z0 z1 f0 f1 k2 k5 hbel7 o7; go_wp2
                go_roundw
                case rel => exact ⟨i + 1, fl1, b2, i + 1, acc ++ [(u : Int)], by go_num, rfl, by omega, hf1, hb2n, by omega, o9', k2z, k5z, hbel9, Lib.hid (by rw [show K - (i + 1) = K - i - 1 by omega]; exact HST2.out)⟩
                case measure => simp [Go.RowKit.intOf]; omega
              · have HE := Lib.hid (HB2.out rfl he2); clear HST HB1 HB2
                go_wp2_with fail
                refine HAd.out.mono ?_; rintro e w5 ⟨rfl, hb5⟩; clear HAd f0 f1'; have k2 := hk2.below hb5 hs2; have k5 := hk5.below hb5 hs5; have hbel5 := hbel.trans (hb5.mono hbel.size); clear ho hk2 hk5 hbel hb5 hs2 hs5; have z0 := k2.frozen 0; have z1 := k2.frozen 1; have f0 := k2.cell 0; have f1 := k2.cell 1
                have k2n : Bk ((w5.setCell ⟨w.heap.size, 0, none⟩ (.slice A n c)).setCell ⟨w.heap.size, 1, none⟩ (.int .i64 (b1 : Int))) w.heap.size 82 #[.slice A n c, .int .i64 (b1 : Int)] := by
                  have := (k2.set_ 0 (.slice A n c)).set_ 1 (.int .i64 (b1 : Int))
                  simpa using this
                have k5n : Bk ((w5.setCell ⟨w.heap.size, 0, none⟩ (.slice A n c)).setCell ⟨w.heap.size, 1, none⟩ (.int .i64 (b1 : Int))) (w.heap.size + 1) 82 #[.slice none 0 0, .int .i64 0] := (k5.setOther (by simp) _).setOther (by simp) _; have hbeln := (hbel5.setCell (p := ⟨w.heap.size, 0, none⟩) (Nat.le_refl _) (.slice A n c)).setCell (p := ⟨w.heap.size, 1, none⟩) (Nat.le_refl _) (.int .i64 (b1 : Int)); have q0 := k2n.cell 0; have q1 := k2n.cell 1
                go_wp2_with fail
                clear z0 z1 f0 f1 k2 k5 hbel5; generalize hW2 : (w5.setCell ⟨w.heap.size, 0, none⟩ (.slice A n c)).setCell ⟨w.heap.size, 1, none⟩ (.int .i64 (b1 : Int)) = w6 at *; clear hW2 w5; have hs2 := k2n.lt; have hs5 := k5n.lt; refine (HNd.out _ hbeln).mono ?_; rintro e w7 ⟨rfl, hb7⟩; clear HNd q0 q1; have k2 := k2n.below hb7 hs2; have k5 := k5n.below hb7 hs5; have hbel7 := hbeln.trans (hb7.mono hbeln.size); clear k2n k5n hbeln hb7 hs2 hs5; have z0 := k2.frozen 0; have z1 := k2.frozen 1; have f0 := k2.cell 0; have f1 := k2.cell 1
                have k2n : Bk ((w7.setCell ⟨w.heap.size, 0, none⟩ (.slice A n c)).setCell ⟨w.heap.size, 1, none⟩ (.int .i64 (b2 : Int))) w.heap.size 82 #[.slice A n c, .int .i64 (b2 : Int)] := by
                  have := (k2.set_ 0 (.slice A n c)).set_ 1 (.int .i64 (b2 : Int))
                  simpa using this
                have k5n : Bk ((w7.setCell ⟨w.heap.size, 0, none⟩ (.slice A n c)).setCell ⟨w.heap.size, 1, none⟩ (.int .i64 (b2 : Int))) (w.heap.size + 1) 82 #[.slice none 0 0, .int .i64 0] := (k5.setOther (by simp) _).setOther (by simp) _; have hbeln := (hbel7.setCell (p := ⟨w.heap.size, 0, none⟩) (Nat.le_refl _) (.slice A n c)).setCell (p := ⟨w.heap.size, 1, none⟩) (Nat.le_refl _) (.int .i64 (b2 : Int)); go_wp2; clear z0 z1 f0 f1 k2 k5 hbel7; have q0 := k2n.cell 0; have q1 := k2n.cell 1; have d0 := k5n.cell 0; have d1 := k5n.cell 1; have y0 := k5n.frozen 0; have y1 := k5n.frozen 1
                go_region
                all_goals
                  go_wp2; exact bodyPost_ret (v := .tuple #[.slice none 0 0, .agg #[.slice A n c, .int .i64 (b2 : Int)], .int .i64 e2]) (by simp [results, Tryz.results131, go_sem, d0, d1]) rfl ⟨.inl ⟨by rw [HE.out]; exact he2, b2, by rw [HE.out]; rfl⟩, ((hbeln.setCell (by simp) _).setCell (by simp) _).drew⟩
            · have HE := Lib.hid (HB1.out he1); clear HST HB1 HB2 HNd
              go_wp2_with fail
              refine HAd.out.mono ?_; rintro e w5 ⟨rfl, hb5⟩; clear HAd f0 f1'; have k2 := hk2.below hb5 hs2; have k5 := hk5.below hb5 hs5; have hbel5 := hbel.trans (hb5.mono hbel.size); clear ho hk2 hk5 hbel hb5 hs2 hs5; have z0 := k2.frozen 0; have z1 := k2.frozen 1; have f0 := k2.cell 0; have f1 := k2.cell 1
              have k2n : Bk ((w5.setCell ⟨w.heap.size, 0, none⟩ (.slice A n c)).setCell ⟨w.heap.size, 1, none⟩ (.int .i64 (b1 : Int))) w.heap.size 82 #[.slice A n c, .int .i64 (b1 : Int)] := by
                have := (k2.set_ 0 (.slice A n c)).set_ 1 (.int .i64 (b1 : Int))
                simpa using this
              have k5n : Bk ((w5.setCell ⟨w.heap.size, 0, none⟩ (.slice A n c)).setCell ⟨w.heap.size, 1, none⟩ (.int .i64 (b1 : Int))) (w.heap.size + 1) 82 #[.slice none 0 0, .int .i64 0] := (k5.setOther (by simp) _).setOther (by simp) _; have hbeln := (hbel5.setCell (p := ⟨w.heap.size, 0, none⟩) (Nat.le_refl _) (.slice A n c)).setCell (p := ⟨w.heap.size, 1, none⟩) (Nat.le_refl _) (.int .i64 (b1 : Int)); go_wp2; clear z0 z1 f0 f1 k2 k5 hbel5; have q0 := k2n.cell 0; have q1 := k2n.cell 1; have d0 := k5n.cell 0; have d1 := k5n.cell 1; have y0 := k5n.frozen 0; have y1 := k5n.frozen 1
              go_region
              all_goals
                go_wp2; exact bodyPost_ret (v := .tuple #[.slice none 0 0, .agg #[.slice A n c, .int .i64 (b1 : Int)], .int .i64 e1]) (by simp [results, Tryz.results131, go_sem, d0, d1]) rfl ⟨.inl ⟨by rw [HE.out]; exact he1, b1, by rw [HE.out]; rfl⟩, ((hbeln.setCell (by simp) _).setCell (by simp) _).drew⟩
          · obtain rfl : i = K := by omega
            have hi1 : ¬ (i : Int) < (i : Int) := by omega
            have hS := HS.out; rw [Nat.sub_self, rdUs] at hS; simp only [List.append_nil] at hS; subst hS; clear HS HT HA HN; have q0 := hk2.cell 0; have q1 := hk2.cell 1; have d0 := hk5.cell 0; have d1 := hk5.cell 1; have y0 := hk5.frozen 0; have y1 := hk5.frozen 1; go_wp2
            go_region
            all_goals
              go_wp2; exact bodyPost_ret (v := .tuple #[u10, .agg #[.slice A n c, .int .i64 (a : Int)], .int .i64 0]) (by simp [results, Tryz.results131, go_sem, d0, d1]) rfl ⟨.inr ⟨rfl, _, q, rfl, own_drew (own_cursor ho hk5 _ _), by omega⟩, ((hbel.setCell (by simp) _).setCell (by simp) _).drew⟩
      · rw [if_neg he1]; clear hC h hna; unfold cur at *; go_enter Tryz.func131, Tryz.ntmps131
        go_wp2_with fail
        refine (HU.out _ hbel0).mono ?_; rintro e w1 ⟨rfl, hb1⟩; obtain ⟨k2, k5, hbel, s1⟩ := two_boxes hb1; clear HU hb1 hbel0; have z0 := k2.frozen 0; have z1 := k2.frozen 1; have f0 := k2.cell 0; have f1 := k2.cell 1
        have k2n : Bk ((w1.setCell ⟨w.heap.size, 0, none⟩ (.slice A n c)).setCell ⟨w.heap.size, 1, none⟩ (.int .i64 (p2 : Int))) w.heap.size 82 #[.slice A n c, .int .i64 (p2 : Int)] := by
          have := (k2.set_ 0 (.slice A n c)).set_ 1 (.int .i64 (p2 : Int))
          simpa using this
        have k5n : Bk ((w1.setCell ⟨w.heap.size, 0, none⟩ (.slice A n c)).setCell ⟨w.heap.size, 1, none⟩ (.int .i64 (p2 : Int))) (w.heap.size + 1) 82 #[.slice none 0 0, .int .i64 0] := (k5.setOther (by simp) _).setOther (by simp) _; have hbeln := (hbel.setCell (p := ⟨w.heap.size, 0, none⟩) (Nat.le_refl _) (.slice A n c)).setCell (p := ⟨w.heap.size, 1, none⟩) (Nat.le_refl _) (.int .i64 (p2 : Int)); have q0 := k2n.cell 0; have q1 := k2n.cell 1
        go_wp2_with fail
        clear z0 z1 f0 f1 k2 k5 hbel; have hs2 := k2n.lt; have hs5 := k5n.lt; generalize hW2 : (w1.setCell ⟨w.heap.size, 0, none⟩ (.slice A n c)).setCell ⟨w.heap.size, 1, none⟩ (.int .i64 (p2 : Int)) = w2 at *; clear hW2 w1 s1; refine (HF.out _ hbeln).mono ?_; rintro e w3 ⟨rfl, hb3⟩; have k2 := k2n.below hb3 hs2; have k5 := k5n.below hb3 hs5; have hbel := hbeln.trans (hb3.mono hbeln.size); clear HF q0 q1 k2n k5n hbeln hb3 hs2 hs5; have z0 := k2.frozen 0; have z1 := k2.frozen 1; have f0 := k2.cell 0; have f1 := k2.cell 1
        have k2n : Bk ((w3.setCell ⟨w.heap.size, 0, none⟩ (.slice A n c)).setCell ⟨w.heap.size, 1, none⟩ (.int .i64 (a1 : Int))) w.heap.size 82 #[.slice A n c, .int .i64 (a1 : Int)] := by
          have := (k2.set_ 0 (.slice A n c)).set_ 1 (.int .i64 (a1 : Int))
          simpa using this
        have k5n : Bk ((w3.setCell ⟨w.heap.size, 0, none⟩ (.slice A n c)).setCell ⟨w.heap.size, 1, none⟩ (.int .i64 (a1 : Int))) (w.heap.size + 1) 82 #[.slice none 0 0, .int .i64 0] := (k5.setOther (by simp) _).setOther (by simp) _; have hbeln := (hbel.setCell (p := ⟨w.heap.size, 0, none⟩) (Nat.le_refl _) (.slice A n c)).setCell (p := ⟨w.heap.size, 1, none⟩) (Nat.le_refl _) (.int .i64 (a1 : Int)); go_wp2; clear z0 z1 f0 f1 k2 k5 hbel; have q0 := k2n.cell 0; have q1 := k2n.cell 1; have d0 := k5n.cell 0; have d1 := k5n.cell 1; have y0 := k5n.frozen 0; have y1 := k5n.frozen 1
        go_region
        all_goals
          go_wp2; exact bodyPost_ret (v := .tuple #[.slice none 0 0, .agg #[.slice A n c, .int .i64 (a1 : Int)], .int .i64 e1]) (by simp [results, Tryz.results131, go_sem, d0, d1]) rfl ⟨.inl ⟨he1, a1, rfl⟩, ((hbeln.setCell (by simp) _).setCell (by simp) _).drew⟩
  · obtain ⟨e1, e2, e3⟩ := u16_end hl ha h1; have hU2 := hU.out; rw [e1, e2, e3] at hU2; clear hU e1 e2 e3; have HU := Lib.hid hU2; clear hU2; have eR : rdAll l cs at_ = ([], 0, 5) := by unfold rdAll; rw [if_neg (by omega)]
    rw [eR]; clear eR hC h hna; unfold cur at *; go_enter Tryz.func131, Tryz.ntmps131
    go_wp2_with fail
    refine (HU.out _ hbel0).mono ?_; rintro e w1 ⟨rfl, hb1⟩; obtain ⟨k2, k5, hbel, s1⟩ := two_boxes hb1; clear HU; have z0 := k2.frozen 0; have z1 := k2.frozen 1; have f0 := k2.cell 0; have f1 := k2.cell 1
    have k2n : Bk ((w1.setCell ⟨w.heap.size, 0, none⟩ (.slice A n c)).setCell ⟨w.heap.size, 1, none⟩ (.int .i64 (at_ : Int))) w.heap.size 82 #[.slice A n c, .int .i64 (at_ : Int)] := by
      have := (k2.set_ 0 (.slice A n c)).set_ 1 (.int .i64 (at_ : Int))
      simpa using this
    have k5n : Bk ((w1.setCell ⟨w.heap.size, 0, none⟩ (.slice A n c)).setCell ⟨w.heap.size, 1, none⟩ (.int .i64 (at_ : Int))) (w.heap.size + 1) 82 #[.slice none 0 0, .int .i64 0] := (k5.setOther (by simp) _).setOther (by simp) _; have hbeln := (hbel.setCell (p := ⟨w.heap.size, 0, none⟩) (Nat.le_refl _) (.slice A n c)).setCell (p := ⟨w.heap.size, 1, none⟩) (Nat.le_refl _) (.int .i64 (at_ : Int)); go_wp2; clear z0 z1 f0 f1; have q0 := k2n.cell 0; have q1 := k2n.cell 1; have d0 := k5n.cell 0; have d1 := k5n.cell 1; have y0 := k5n.frozen 0; have y1 := k5n.frozen 1
    go_region
    all_goals
      go_wp2; exact bodyPost_ret (v := .tuple #[.slice none 0 0, .agg #[.slice A n c, .int .i64 (at_ : Int)], .int .i64 5]) (by simp [results, Tryz.results131, go_sem, d0, d1]) rfl ⟨.inl ⟨by decide, at_, rfl⟩, ((hbeln.setCell (by simp) _).setCell (by simp) _).drew⟩
end Go.Proofs.YtlaiocdnddnnaaaGreatDoor
