/- Boxes of a call's own in a region that draws its order: any row of blocks made and boxes filled, one behind the other; what is kept of them behind each operation. No condition. -/
/- cashbooklaw4.To, cashbooklaw8.To, ToArea, cashbooklaw9.To by their contracts. No condition. -/
import Derived.Test.YtlaiocdnddnnaaaGreatDoorDc
import Derived.Test.YtlaiocdnddnnaaaGreatDoorLast
import Derived.Test.YtlaiocdnddnnaaaGreatDoorApp
import Derived.StillTailTactics
import Derived.RegionTactic
import Derived.BigRegion
set_option linter.unusedVariables false
set_option linter.unusedSimpArgs false
namespace Go.Proofs.YtlaiocdnddnnaaaGreatDoor
open Go.RowKit
structure SB (w : World) (n : Nat) (bs : List (Nat × TypeId × Array Value)) (W : World) : Prop where
  bel : Below w.heap.size w W
  size : w.heap.size + n ≤ W.heap.size
  bk : ∀ x ∈ bs, Bk W x.1 x.2.1 x.2.2
def setBox : List (Nat × TypeId × Array Value) → Nat → Array Value → List (Nat × TypeId × Array Value)
  | [], _, _ => []
  | x :: l, 0, cs => (x.1, x.2.1, cs) :: l
  | x :: l, i + 1, cs => x :: setBox l i cs
def butBox : List (Nat × TypeId × Array Value) → Nat → List (Nat × TypeId × Array Value)
  | [], _ => []
  | _ :: l, 0 => l
  | x :: l, i + 1 => x :: butBox l i
section
variable {w W W' : World} {n g i : Nat} {T : TypeId} {bs bs' : List (Nat × TypeId × Array Value)} {cs z : Array Value} {vals : List Value}
theorem SB.call (h : SB w n bs W) (hb : Below W.heap.size W W') : SB w n bs W' :=
  ⟨h.bel.trans (hb.mono h.bel.size), Nat.le_trans h.size hb.size, fun x hx => (h.bk x hx).below hb (h.bk x hx).lt⟩
theorem SB.drew (h : SB w n bs W) : SB w n bs W.drew := ⟨h.bel.drew, h.size, h.bk⟩
theorem SB.alloc (h : SB w n bs W) (T : TypeId) (cs : Array Value) : SB w n ((W.heap.size, T, cs) :: bs) (W.alloc (.cells cs T)) := by
  refine ⟨h.bel.alloc h.bel.size _, Nat.le_trans h.size (by simp), fun x hx => ?_⟩
  rcases List.mem_cons.1 hx with rfl | hx
  · exact Bk.new W T cs
  · exact (h.bk x hx).alloc _
theorem SB.made (h : SB w n bs W) (o : Obj) : SB w n bs (W.alloc o) := ⟨h.bel.alloc h.bel.size _, Nat.le_trans h.size (by simp), fun x hx => (h.bk x hx).alloc _⟩
theorem SB.tail {x : Nat × TypeId × Array Value} (h : SB w n (x :: bs) W) : SB w n bs W := ⟨h.bel, h.size, fun y hy => h.bk y (List.mem_cons_of_mem _ hy)⟩
theorem SB.some_ (h : SB w n bs W) (hs : ∀ x ∈ bs', x ∈ bs) : SB w n bs' W := ⟨h.bel, h.size, fun y hy => h.bk y (hs y hy)⟩
theorem SB.base (w : World) : SB w 0 [] w := ⟨Below.refl _ _, Nat.le_refl _, fun x hx => by cases hx⟩
theorem SB.box (h : SB w n bs W) {x : Nat × TypeId × Array Value} (hx : bs[i]? = some x) : Bk W x.1 x.2.1 x.2.2 := h.bk x (List.mem_of_getElem? hx)
theorem setBox_mem {bs : List (Nat × TypeId × Array Value)} {i : Nat} {y : Nat × TypeId × Array Value} (h : y ∈ setBox bs i cs) {x : Nat × TypeId × Array Value} (hx : bs[i]? = some x) : y = (x.1, x.2.1, cs) ∨ y ∈ butBox bs i := by
  induction bs generalizing i with
  | nil => cases hx
  | cons b l ih =>
    cases i with
    | zero =>
      simp only [List.getElem?_cons_zero, Option.some.injEq] at hx; subst hx; exact (List.mem_cons.1 h).imp id id
    | succ i =>
      simp only [List.getElem?_cons_succ] at hx
      rcases List.mem_cons.1 h with rfl | h
      · exact .inr (List.mem_cons_self ..)
      · exact (ih h hx).imp id (List.mem_cons_of_mem _)
theorem butBox_mem {bs : List (Nat × TypeId × Array Value)} {i : Nat} {y : Nat × TypeId × Array Value} (h : y ∈ butBox bs i) : y ∈ bs := by
  induction bs generalizing i with
  | nil => exact h
  | cons b l ih =>
    cases i with
    | zero => exact List.mem_cons_of_mem _ h
    | succ i =>
      rcases List.mem_cons.1 h with rfl | h
      · exact List.mem_cons_self ..
      · exact List.mem_cons_of_mem _ (ih h)
theorem SB.put1 (h : SB w n bs W) (hi : bs[i]? = some (g, T, cs)) (hg : w.heap.size ≤ g) (hne : ∀ x ∈ butBox bs i, x.1 ≠ g) (j : Nat) (u : Value) :
    SB w n (setBox bs i (cs.setIfInBounds j u)) (W.setCell ⟨g, j, none⟩ u) := by
  refine ⟨h.bel.setCell hg _, by have := h.size; simpa [World.setCell] using this, fun x hx => ?_⟩
  rcases setBox_mem hx hi with rfl | hx
  · exact (h.box hi).set_ j u
  · have hk := h.bk x (butBox_mem hx); have hn := hne x hx; unfold Bk at hk ⊢; rw [Below.heap_setCell W ⟨g, j, none⟩ u x.1 hn]; exact hk
theorem setBox_get {bs : List (Nat × TypeId × Array Value)} {i : Nat} (hi : bs[i]? = some (g, T, z)) : (setBox bs i cs)[i]? = some (g, T, cs) := by
  induction bs generalizing i with
  | nil => cases hi
  | cons b l ih =>
    cases i with
    | zero =>
      simp only [List.getElem?_cons_zero, Option.some.injEq] at hi; subst hi; rfl
    | succ i => exact ih hi
theorem setBox_two {bs : List (Nat × TypeId × Array Value)} {i : Nat} : setBox (setBox bs i z) i cs = setBox bs i cs := by
  induction bs generalizing i with
  | nil => rfl
  | cons b l ih =>
    cases i with
    | zero => rfl
    | succ i => simp only [setBox, ih]
theorem setBox_but {bs : List (Nat × TypeId × Array Value)} {i : Nat} : butBox (setBox bs i cs) i = butBox bs i := by
  induction bs generalizing i with
  | nil => rfl
  | cons b l ih =>
    cases i with
    | zero => rfl
    | succ i => simp only [setBox, butBox, ih]
theorem SB.put8 {a0 a1 a2 a3 a4 a5 a6 a7 : Value} (h : SB w n bs W) (hi : bs[i]? = some (g, T, #[a0, a1, a2, a3, a4, a5, a6, a7])) (hg : w.heap.size ≤ g) (hne : ∀ x ∈ butBox bs i, x.1 ≠ g) (u0 u1 u2 u3 u4 u5 u6 u7 : Value) :
    SB w n (setBox bs i #[u0, u1, u2, u3, u4, u5, u6, u7]) ((((((((W.setCell ⟨g, 0, none⟩ u0).setCell ⟨g, 1, none⟩ u1).setCell ⟨g, 2, none⟩ u2).setCell ⟨g, 3, none⟩ u3).setCell ⟨g, 4, none⟩ u4).setCell ⟨g, 5, none⟩ u5).setCell ⟨g, 6, none⟩ u6).setCell ⟨g, 7, none⟩ u7) := by
  have step : ∀ {W : World} {bs : List (Nat × TypeId × Array Value)} {z : Array Value} (j : Nat) (u : Value), SB w n (setBox bs i z) W → bs[i]? = some (g, T, #[a0, a1, a2, a3, a4, a5, a6, a7]) → (∀ x ∈ butBox bs i, x.1 ≠ g) →
      SB w n (setBox bs i (z.setIfInBounds j u)) (W.setCell ⟨g, j, none⟩ u) := by
    intro W bs z j u h hi hne; have := h.put1 (setBox_get hi) hg (by rw [setBox_but]; exact hne) j u
    rwa [setBox_two] at this
  have h1 := h.put1 hi hg hne 0 u0; have h8 := step 7 u7 (step 6 u6 (step 5 u5 (step 4 u4 (step 3 u3 (step 2 u2 (step 1 u1 h1 hi hne) hi hne) hi hne) hi hne) hi hne) hi hne) hi hne
  simpa using h8
inductive Stp where
  | new (T : TypeId) (z : Array Value)
  | put (i : Nat) (cs : Array Value)
def SX (w : World) (n : Nat) : List Stp → List Value → List (Nat × TypeId × Array Value) → World → Prop
  | _, [], bs, W => SB w n bs W
  | .new T z :: r, v :: vs, bs, W => ∃ g, v = .pointer (some ⟨g, 0, none⟩) ∧ w.heap.size + n ≤ g ∧ (∀ x ∈ bs, x.1 ≠ g) ∧ SX w n r vs ((g, T, z) :: bs) W
  | .put i cs :: r, _ :: vs, bs, W => SX w n r vs (setBox bs i cs) W
  | [], _ :: _, bs, W => SB w n bs W
def keepsB : List Stp → Nat → Bool
  | [], _ => true
  | .new _ _ :: r, i => keepsB r (i + 1)
  | .put j _ :: r, i => i != j && keepsB r i
theorem setBox_ne {bs : List (Nat × TypeId × Array Value)} {i j : Nat} (h : i ≠ j) : (setBox bs j cs)[i]? = bs[i]? := by
  induction bs generalizing i j with
  | nil => rfl
  | cons b l ih =>
    cases j with
    | zero =>
      cases i with
      | zero => exact absurd rfl h
      | succ i => rfl
    | succ j =>
      cases i with
      | zero => rfl
      | succ i => exact ih (by omega)
theorem SX.bk {st : List Stp} (h : SX w n st vals bs W) (i : Nat) {x : Nat × TypeId × Array Value} (hi : bs[i]? = some x) (hk : keepsB st i = true) : Bk W x.1 x.2.1 x.2.2 := by
  induction st generalizing vals bs i with
  | nil => cases vals <;> exact SB.box h hi
  | cons s r ih =>
    cases vals with
    | nil => cases s <;> exact SB.box h hi
    | cons v vs =>
      cases s with
      | new T z =>
        obtain ⟨g, _, _, _, h⟩ := h; exact ih h (i + 1) hi hk
      | put j c =>
        simp only [keepsB, Bool.and_eq_true, bne_iff_ne, ne_eq] at hk; exact ih h i (by rw [setBox_ne hk.1]; exact hi) hk.2
theorem SX.call {st : List Stp} (h : SX w n st vals bs W) (hb : Below W.heap.size W W') : SX w n st vals bs W' := by
  induction st generalizing vals bs with
  | nil => cases vals <;> exact SB.call h hb
  | cons s r ih =>
    cases vals with
    | nil => cases s <;> exact SB.call h hb
    | cons v vs =>
      cases s with
      | new T z =>
        obtain ⟨g, h1, h2, h3, h⟩ := h; exact ⟨g, h1, h2, h3, ih h⟩
      | put j c => exact ih (vals := vs) (bs := setBox bs j c) h
end
theorem sb1 (w : World) (T : TypeId) (cs : Array Value) : SB w 1 [(w.heap.size, T, cs)] (w.alloc (.cells cs T)) :=
  ⟨bel0 w _, by simp, fun x hx => by
    obtain rfl := List.mem_singleton.1 hx
    exact Bk.new w T cs⟩
theorem SB.push {w W : World} {n : Nat} {bs : List (Nat × TypeId × Array Value)} (h : SB w n bs W) (hs : W.heap.size = w.heap.size + n) (T : TypeId) (cs : Array Value) : SB w (n + 1) ((w.heap.size + n, T, cs) :: bs) (W.alloc (.cells cs T)) := by
  have h1 := h.alloc T cs; rw [hs] at h1; exact ⟨h1.bel, by simp; omega, h1.bk⟩
end Go.Proofs.YtlaiocdnddnnaaaGreatDoor
namespace Go.Proofs.YtlaiocdnddnnaaaGreatDoor
open Go.RowKit
theorem SB.put6 {w W : World} {n i g : Nat} {T : TypeId} {bs : List (Nat × TypeId × Array Value)} {a0 a1 a2 a3 a4 a5 : Value} (h : SB w n bs W) (hi : bs[i]? = some (g, T, #[a0, a1, a2, a3, a4, a5])) (hg : w.heap.size ≤ g) (hne : ∀ x ∈ butBox bs i, x.1 ≠ g) (u0 u1 u2 u3 u4 u5 : Value) :
    SB w n (setBox bs i #[u0, u1, u2, u3, u4, u5]) ((((((W.setCell ⟨g, 0, none⟩ u0).setCell ⟨g, 1, none⟩ u1).setCell ⟨g, 2, none⟩ u2).setCell ⟨g, 3, none⟩ u3).setCell ⟨g, 4, none⟩ u4).setCell ⟨g, 5, none⟩ u5) := by
  have step : ∀ {W : World} {bs : List (Nat × TypeId × Array Value)} {z : Array Value} (j : Nat) (u : Value), SB w n (setBox bs i z) W → bs[i]? = some (g, T, #[a0, a1, a2, a3, a4, a5]) → (∀ x ∈ butBox bs i, x.1 ≠ g) →
      SB w n (setBox bs i (z.setIfInBounds j u)) (W.setCell ⟨g, j, none⟩ u) := by
    intro W bs z j u h hi hne; have := h.put1 (setBox_get hi) hg (by rw [setBox_but]; exact hne) j u
    rwa [setBox_two] at this
  have h1 := h.put1 hi hg hne 0 u0; have h8 := step 5 u5 (step 4 u4 (step 3 u3 (step 2 u2 (step 1 u1 h1 hi hne) hi hne) hi hne) hi hne) hi hne
  simpa using h8
theorem toDec_any {w : World} (m s : Int) : Calls Tryz.prog 45 #[.agg #[.int .i64 m, .int .i64 s]] w fun e W => e = .returned (.agg #[.int .i64 m, .int .i64 s]) ∧ Below w.heap.size w W := by
  go_enter Tryz.func45, Tryz.ntmps45; go_wp2; exact bodyPost_ret (v := .agg #[.int .i64 m, .int .i64 s]) (by simp [results, Tryz.results45, go_sem]) rfl ⟨rfl, bel1 _ _ _⟩
theorem toRef_any {w : World} (r c : Int) (x y : Bool) : Calls Tryz.prog 46 #[.agg #[.int .i64 r, .int .i64 c, .bool x, .bool y]] w fun e W => e = .returned (.agg #[.int .i64 r, .int .i64 c, .bool x, .bool y]) ∧ Below w.heap.size w W := by
  go_enter Tryz.func46, Tryz.ntmps46; go_wp2; exact bodyPost_ret (v := .agg #[.int .i64 r, .int .i64 c, .bool x, .bool y]) (by simp [results, Tryz.results46, go_sem]) rfl ⟨rfl, bel1 _ _ _⟩
set_option maxRecDepth 20000 in
set_option maxHeartbeats 2000000 in
theorem toArea_any {w : World} (r1 c1 r2 c2 : Int) (x1 y1 x2 y2 : Bool) :
    Calls Tryz.prog 28 #[.agg #[.int .i64 r1, .int .i64 c1, .bool x1, .bool y1, .int .i64 r2, .int .i64 c2, .bool x2, .bool y2]] w fun e w' => e = .returned (.agg #[.int .i64 r1, .int .i64 c1, .bool x1, .bool y1, .int .i64 r2, .int .i64 c2, .bool x2, .bool y2]) ∧ Below w.heap.size w w' := by
  have HB : Hid (SB w 2 ([(w.heap.size + 1, 44, #[.int .i64 0, .int .i64 0, .bool false, .bool false, .int .i64 0, .int .i64 0, .bool false, .bool false]), (w.heap.size, 29, #[.int .i64 r1, .int .i64 c1, .bool x1, .bool y1, .int .i64 r2, .int .i64 c2, .bool x2, .bool y2])] : List (Nat × TypeId × Array Value)) ((w.alloc (.cells #[.int .i64 r1, .int .i64 c1, .bool x1, .bool y1, .int .i64 r2, .int .i64 c2, .bool x2, .bool y2] 29)).alloc (.cells #[.int .i64 0, .int .i64 0, .bool false, .bool false, .int .i64 0, .int .i64 0, .bool false, .bool false] 44))) := Lib.hid ((sb1 w 29 #[.int .i64 r1, .int .i64 c1, .bool x1, .bool y1, .int .i64 r2, .int .i64 c2, .bool x2, .bool y2]).push (by simp) 44 #[.int .i64 0, .int .i64 0, .bool false, .bool false, .int .i64 0, .int .i64 0, .bool false, .bool false]); go_enter Tryz.func28, Tryz.ntmps28
  go_wp2_with fail
  refine wp_region_phases (S := (fun vals W => SX w 2 ([.put 0 #[.int .i64 r1, .int .i64 c1, .bool x1, .bool y1, .int .i64 r2, .int .i64 c2, .bool x2, .bool y2]] : List Stp) vals ([(w.heap.size + 1, 44, #[.int .i64 0, .int .i64 0, .bool false, .bool false, .int .i64 0, .int .i64 0, .bool false, .bool false]), (w.heap.size, 29, #[.int .i64 r1, .int .i64 c1, .bool x1, .bool y1, .int .i64 r2, .int .i64 c2, .bool x2, .bool y2])] : List (Nat × TypeId × Array Value)) W)) (E := (fun _ _ => True)) [7] [(1, Is (.pointer (some ⟨w.heap.size, 0, none⟩))), (2, Is (.pointer (some ⟨w.heap.size + 1, 0, none⟩)))] [(3, Is (.pointer (some ⟨w.heap.size, 0, none⟩))), (4, Is (.agg #[.int .i64 r1, .int .i64 c1, .bool x1, .bool y1])), (5, Is (.agg #[.int .i64 r1, .int .i64 c1, .bool x1, .bool y1])), (6, Is (.pointer (some ⟨w.heap.size, 4, none⟩))), (7, Is (.agg #[.int .i64 r2, .int .i64 c2, .bool x2, .bool y2])), (8, Is (.agg #[.int .i64 r2, .int .i64 c2, .bool x2, .bool y2])), (9, Is (.agg #[.int .i64 r1, .int .i64 c1, .bool x1, .bool y1, .int .i64 r2, .int .i64 c2, .bool x2, .bool y2]))]
    [.op [1] none, .op [3] none, .op [4] none, .op [1] none, .op [6] none, .op [7] none, .op [5, 8] none, .phase 0 [2, 9] []] (by as_aux_lemma => kernel_rfl) ?_ ?_ ?_ ?_ ?_ ⟨stable_is _ _, stable_is _ _, stable_is _ _, stable_is _ _, stable_is _ _, stable_is _ _, stable_is _ _, stable_is _ _, stable_is _ _, trivial⟩ ?_ (HB.out.drew) ?_ ?_
  · as_aux_lemma => kernel_rfl
  · as_aux_lemma => kernel_rfl
  · as_aux_lemma => kernel_rfl
  · as_aux_lemma => kernel_rfl
  · as_aux_lemma => kernel_rfl
  · exact ⟨rfl, rfl, trivial⟩
  · refine ⟨?_, ?_, ?_, ?_, ?_, ?_, ?_, ?_, trivial⟩
    · as_aux_lemma => intro vals a W hS hL; have e1 : a.tmps.getD 1 undef = .pointer (some ⟨w.heap.size, 0, none⟩) := hL.1; clear hL; go_simp; exact ⟨dstY (by rfl), hS, trivial⟩
    · as_aux_lemma => intro vals a W hS hL; have e3 : a.tmps.getD 3 undef = .pointer (some ⟨w.heap.size, 0, none⟩) := hL.1; clear hL; have kb : Bk W (w.heap.size) 29 #[.int .i64 r1, .int .i64 c1, .bool x1, .bool y1, .int .i64 r2, .int .i64 c2, .bool x2, .bool y2] := hS.bk 1 rfl rfl; have f0 := kb.cell 0; have f1 := kb.cell 1; have f2 := kb.cell 2; have f3 := kb.cell 3; clear kb; go_simp; exact ⟨dstY (by rfl), hS, trivial⟩
    · as_aux_lemma => intro vals a W hS hL; have e4 : a.tmps.getD 4 undef = .agg #[.int .i64 r1, .int .i64 c1, .bool x1, .bool y1] := hL.1; clear hL; go_simp; refine (toRef_any r1 c1 x1 y1).mono ?_; rintro e W' ⟨rfl, hb⟩; exact ⟨_, rfl, dstY (by rfl), hS.call hb, trivial⟩
    · as_aux_lemma => intro vals a W hS hL; have e1 : a.tmps.getD 1 undef = .pointer (some ⟨w.heap.size, 0, none⟩) := hL.1; clear hL; go_simp; exact ⟨dstY (by rfl), hS, trivial⟩
    · as_aux_lemma => intro vals a W hS hL; have e6 : a.tmps.getD 6 undef = .pointer (some ⟨w.heap.size, 4, none⟩) := hL.1; clear hL; have kb : Bk W (w.heap.size) 29 #[.int .i64 r1, .int .i64 c1, .bool x1, .bool y1, .int .i64 r2, .int .i64 c2, .bool x2, .bool y2] := hS.bk 1 rfl rfl; have f4 := kb.cell 4; have f5 := kb.cell 5; have f6 := kb.cell 6; have f7 := kb.cell 7; clear kb; go_simp; exact ⟨dstY (by rfl), hS, trivial⟩
    · as_aux_lemma => intro vals a W hS hL; have e7 : a.tmps.getD 7 undef = .agg #[.int .i64 r2, .int .i64 c2, .bool x2, .bool y2] := hL.1; clear hL; go_simp; refine (toRef_any r2 c2 x2 y2).mono ?_; rintro e W' ⟨rfl, hb⟩; exact ⟨_, rfl, dstY (by rfl), hS.call hb, trivial⟩
    · skip
      intro vals a W hS hL; have e5 : a.tmps.getD 5 undef = .agg #[.int .i64 r1, .int .i64 c1, .bool x1, .bool y1] := hL.1; have e8 : a.tmps.getD 8 undef = .agg #[.int .i64 r2, .int .i64 c2, .bool x2, .bool y2] := hL.2.1; clear hL; rw [Array.getD_eq_getD_getElem?] at e5 e8; go_simp; exact ⟨dstY (by rfl), hS, trivial⟩
    · skip
      intro a W vals hv hS hL hp; have e2 : a.tmps.getD 2 undef = .pointer (some ⟨w.heap.size + 1, 0, none⟩) := hL.1; have e9 : a.tmps.getD 9 undef = .agg #[.int .i64 r1, .int .i64 c1, .bool x1, .bool y1, .int .i64 r2, .int .i64 c2, .bool x2, .bool y2] := hL.2.1; clear hL
      match vals, hv, hS with
      | [], _, hS =>
        have hS2 : SX w 2 ([.put 0 #[.int .i64 r1, .int .i64 c1, .bool x1, .bool y1, .int .i64 r2, .int .i64 c2, .bool x2, .bool y2]] : List Stp) [] ([(w.heap.size + 1, 44, #[.int .i64 0, .int .i64 0, .bool false, .bool false, .int .i64 0, .int .i64 0, .bool false, .bool false]), (w.heap.size, 29, #[.int .i64 r1, .int .i64 c1, .bool x1, .bool y1, .int .i64 r2, .int .i64 c2, .bool x2, .bool y2])] : List (Nat × TypeId × Array Value)) W := hS; clear hS; have hB0 := hS2; have hB : SB w 2 ([(w.heap.size + 1, 44, #[.int .i64 0, .int .i64 0, .bool false, .bool false, .int .i64 0, .int .i64 0, .bool false, .bool false]), (w.heap.size, 29, #[.int .i64 r1, .int .i64 c1, .bool x1, .bool y1, .int .i64 r2, .int .i64 c2, .bool x2, .bool y2])] : List (Nat × TypeId × Array Value)) W := hB0; clear hB0; rw [Array.getD_eq_getD_getElem?] at e9; have kz := hB.box (i := 0) rfl; have z0 := kz.frozen 0; have q0 := kz.cell 0; have z1 := kz.frozen 1; have q1 := kz.cell 1; have z2 := kz.frozen 2; have q2 := kz.cell 2; have z3 := kz.frozen 3; have q3 := kz.cell 3; have z4 := kz.frozen 4; have q4 := kz.cell 4; have z5 := kz.frozen 5; have q5 := kz.cell 5; have z6 := kz.frozen 6; have q6 := kz.cell 6; have z7 := kz.frozen 7; have q7 := kz.cell 7; have hge : w.heap.size ≤ (w.heap.size + 1) := by omega
        have hne : ∀ qx ∈ butBox ([(w.heap.size + 1, 44, #[.int .i64 0, .int .i64 0, .bool false, .bool false, .int .i64 0, .int .i64 0, .bool false, .bool false]), (w.heap.size, 29, #[.int .i64 r1, .int .i64 c1, .bool x1, .bool y1, .int .i64 r2, .int .i64 c2, .bool x2, .bool y2])] : List (Nat × TypeId × Array Value)) 0, qx.1 ≠ (w.heap.size + 1) := by simp [butBox] <;> omega
        have hF := hB.put8 (i := 0) rfl hge hne (.int .i64 r1 : Value) (.int .i64 c1 : Value) (.bool x1 : Value) (.bool y1 : Value) (.int .i64 r2 : Value) (.int .i64 c2 : Value) (.bool x2 : Value) (.bool y2 : Value); clear kz hB hne hge; go_simp; exact ⟨hF, trivial, trivial⟩
  · intro a W' vals hd hsz hT hF hv hP hS
    obtain ⟨v0, rfl⟩ : ∃ v0, vals = [v0] := by
      match vals, hv with
      | [v0], _ => exact ⟨v0, rfl⟩
    have hS2 : SX w 2 ([.put 0 #[.int .i64 r1, .int .i64 c1, .bool x1, .bool y1, .int .i64 r2, .int .i64 c2, .bool x2, .bool y2]] : List Stp) [v0] ([(w.heap.size + 1, 44, #[.int .i64 0, .int .i64 0, .bool false, .bool false, .int .i64 0, .int .i64 0, .bool false, .bool false]), (w.heap.size, 29, #[.int .i64 r1, .int .i64 c1, .bool x1, .bool y1, .int .i64 r2, .int .i64 c2, .bool x2, .bool y2])] : List (Nat × TypeId × Array Value)) W' := hS; clear hS; have hB0 := hS2; have hB : SB w 2 ([(w.heap.size + 1, 44, #[.int .i64 r1, .int .i64 c1, .bool x1, .bool y1, .int .i64 r2, .int .i64 c2, .bool x2, .bool y2]), (w.heap.size, 29, #[.int .i64 r1, .int .i64 c1, .bool x1, .bool y1, .int .i64 r2, .int .i64 c2, .bool x2, .bool y2])] : List (Nat × TypeId × Array Value)) W' := hB0; clear hB0; have kz0 := hB.box (i := 0) rfl; have r0_0 := kz0.cell 0; have r0_1 := kz0.cell 1; have r0_2 := kz0.cell 2; have r0_3 := kz0.cell 3; have r0_4 := kz0.cell 4; have r0_5 := kz0.cell 5; have r0_6 := kz0.cell 6; have r0_7 := kz0.cell 7; clear kz0; have e2 : a.tmps.getD 2 undef = .pointer (some ⟨w.heap.size + 1, 0, none⟩) := hT 2 (by simp); clear hT hF hP; go_wp2; refine bodyPost_ret (v := .agg #[.int .i64 r1, .int .i64 c1, .bool x1, .bool y1, .int .i64 r2, .int .i64 c2, .bool x2, .bool y2]) ?_ hd ⟨rfl, hB.bel⟩; rw [Array.getD_eq_getD_getElem?] at e2; simp [results, Tryz.results28, go_sem, e2, r0_0, r0_1, r0_2, r0_3, r0_4, r0_5, r0_6, r0_7]
set_option maxRecDepth 20000 in
set_option maxHeartbeats 2000000 in
theorem toVal_any {w : World} (k m s : Int) (t : ByteArray) (b : Bool) (e : Int) :
    Calls Tryz.prog 27 #[.agg #[.int .i64 k, .int .i64 m, .int .i64 s, .string t, .bool b, .int .i64 e]] w fun x w' => x = .returned (.agg #[.int .i64 k, .int .i64 m, .int .i64 s, .string t, .bool b, .int .i64 e]) ∧ Below w.heap.size w w' := by
  have HB : Hid (SB w 2 ([(w.heap.size + 1, 41, #[.int .i64 0, .int .i64 0, .int .i64 0, .string ⟨#[]⟩, .bool false, .int .i64 0]), (w.heap.size, 25, #[.int .i64 k, .int .i64 m, .int .i64 s, .string t, .bool b, .int .i64 e])] : List (Nat × TypeId × Array Value)) ((w.alloc (.cells #[.int .i64 k, .int .i64 m, .int .i64 s, .string t, .bool b, .int .i64 e] 25)).alloc (.cells #[.int .i64 0, .int .i64 0, .int .i64 0, .string ⟨#[]⟩, .bool false, .int .i64 0] 41))) := Lib.hid ((sb1 w 25 #[.int .i64 k, .int .i64 m, .int .i64 s, .string t, .bool b, .int .i64 e]).push (by simp) 41 #[.int .i64 0, .int .i64 0, .int .i64 0, .string ⟨#[]⟩, .bool false, .int .i64 0]); go_enter Tryz.func27, Tryz.ntmps27
  go_wp2_with fail
  refine wp_region_phases (S := (fun vals W => SX w 2 ([.put 0 #[.int .i64 k, .int .i64 m, .int .i64 s, .string t, .bool b, .int .i64 e]] : List Stp) vals ([(w.heap.size + 1, 41, #[.int .i64 0, .int .i64 0, .int .i64 0, .string ⟨#[]⟩, .bool false, .int .i64 0]), (w.heap.size, 25, #[.int .i64 k, .int .i64 m, .int .i64 s, .string t, .bool b, .int .i64 e])] : List (Nat × TypeId × Array Value)) W)) (E := (fun _ _ => True)) [12] [(1, Is (.pointer (some ⟨w.heap.size, 0, none⟩))), (2, Is (.pointer (some ⟨w.heap.size + 1, 0, none⟩)))] [(3, Is (.pointer (some ⟨w.heap.size, 0, none⟩))), (4, Is (.int .i64 k)), (5, Is (.pointer (some ⟨w.heap.size, 1, none⟩))), (6, Is (.agg #[.int .i64 m, .int .i64 s])), (7, Is (.agg #[.int .i64 m, .int .i64 s])), (8, Is (.pointer (some ⟨w.heap.size, 3, none⟩))), (9, Is (.string t)), (10, Is (.pointer (some ⟨w.heap.size, 4, none⟩))), (11, Is (.bool b)), (12, Is (.pointer (some ⟨w.heap.size, 5, none⟩))), (13, Is (.int .i64 e)), (14, Is (.agg #[.int .i64 k, .int .i64 m, .int .i64 s, .string t, .bool b, .int .i64 e]))]
    [.op [1] none, .op [3] none, .op [1] none, .op [5] none, .op [6] none, .op [1] none, .op [8] none, .op [1] none, .op [10] none, .op [1] none, .op [12] none, .op [4, 7, 9, 11, 13] none, .phase 0 [2, 14] []] (by as_aux_lemma => kernel_rfl) ?_ ?_ ?_ ?_ ?_ ⟨stable_is _ _, stable_is _ _, stable_is _ _, stable_is _ _, stable_is _ _, stable_is _ _, stable_is _ _, stable_is _ _, stable_is _ _, stable_is _ _, stable_is _ _, stable_is _ _, stable_is _ _, stable_is _ _, trivial⟩ ?_ (HB.out.drew) ?_ ?_
  · as_aux_lemma => kernel_rfl
  · as_aux_lemma => kernel_rfl
  · as_aux_lemma => kernel_rfl
  · as_aux_lemma => kernel_rfl
  · as_aux_lemma => kernel_rfl
  · exact ⟨rfl, rfl, trivial⟩
  · refine ⟨?_, ?_, ?_, ?_, ?_, ?_, ?_, ?_, ?_, ?_, ?_, ?_, ?_, trivial⟩
    · as_aux_lemma => intro vals a W hS hL; have e1 : a.tmps.getD 1 undef = .pointer (some ⟨w.heap.size, 0, none⟩) := hL.1; clear hL; go_simp; exact ⟨dstY (by rfl), hS, trivial⟩
    · as_aux_lemma => intro vals a W hS hL; have e3 : a.tmps.getD 3 undef = .pointer (some ⟨w.heap.size, 0, none⟩) := hL.1; clear hL; have kb : Bk W (w.heap.size) 25 #[.int .i64 k, .int .i64 m, .int .i64 s, .string t, .bool b, .int .i64 e] := hS.bk 1 rfl rfl; have f0 := kb.cell 0; clear kb; go_simp; exact ⟨dstY (by rfl), hS, trivial⟩
    · as_aux_lemma => intro vals a W hS hL; have e1 : a.tmps.getD 1 undef = .pointer (some ⟨w.heap.size, 0, none⟩) := hL.1; clear hL; go_simp; exact ⟨dstY (by rfl), hS, trivial⟩
    · as_aux_lemma => intro vals a W hS hL; have e5 : a.tmps.getD 5 undef = .pointer (some ⟨w.heap.size, 1, none⟩) := hL.1; clear hL; have kb : Bk W (w.heap.size) 25 #[.int .i64 k, .int .i64 m, .int .i64 s, .string t, .bool b, .int .i64 e] := hS.bk 1 rfl rfl; have f1 := kb.cell 1; have f2 := kb.cell 2; clear kb; go_simp; exact ⟨dstY (by rfl), hS, trivial⟩
    · as_aux_lemma => intro vals a W hS hL; have e6 : a.tmps.getD 6 undef = .agg #[.int .i64 m, .int .i64 s] := hL.1; clear hL; go_simp; refine (toDec_any m s).mono ?_; rintro e W' ⟨rfl, hb⟩; exact ⟨_, rfl, dstY (by rfl), hS.call hb, trivial⟩
    · as_aux_lemma => intro vals a W hS hL; have e1 : a.tmps.getD 1 undef = .pointer (some ⟨w.heap.size, 0, none⟩) := hL.1; clear hL; go_simp; exact ⟨dstY (by rfl), hS, trivial⟩
    · as_aux_lemma => intro vals a W hS hL; have e8 : a.tmps.getD 8 undef = .pointer (some ⟨w.heap.size, 3, none⟩) := hL.1; clear hL; have kb : Bk W (w.heap.size) 25 #[.int .i64 k, .int .i64 m, .int .i64 s, .string t, .bool b, .int .i64 e] := hS.bk 1 rfl rfl; have f3 := kb.cell 3; clear kb; go_simp; exact ⟨dstY (by rfl), hS, trivial⟩
    · as_aux_lemma => intro vals a W hS hL; have e1 : a.tmps.getD 1 undef = .pointer (some ⟨w.heap.size, 0, none⟩) := hL.1; clear hL; go_simp; exact ⟨dstY (by rfl), hS, trivial⟩
    · as_aux_lemma => intro vals a W hS hL; have e10 : a.tmps.getD 10 undef = .pointer (some ⟨w.heap.size, 4, none⟩) := hL.1; clear hL; have kb : Bk W (w.heap.size) 25 #[.int .i64 k, .int .i64 m, .int .i64 s, .string t, .bool b, .int .i64 e] := hS.bk 1 rfl rfl; have f4 := kb.cell 4; clear kb; go_simp; exact ⟨dstY (by rfl), hS, trivial⟩
    · as_aux_lemma => intro vals a W hS hL; have e1 : a.tmps.getD 1 undef = .pointer (some ⟨w.heap.size, 0, none⟩) := hL.1; clear hL; go_simp; exact ⟨dstY (by rfl), hS, trivial⟩
    · as_aux_lemma => intro vals a W hS hL; have e12 : a.tmps.getD 12 undef = .pointer (some ⟨w.heap.size, 5, none⟩) := hL.1; clear hL; have kb : Bk W (w.heap.size) 25 #[.int .i64 k, .int .i64 m, .int .i64 s, .string t, .bool b, .int .i64 e] := hS.bk 1 rfl rfl; have f5 := kb.cell 5; clear kb; go_simp; exact ⟨dstY (by rfl), hS, trivial⟩
    · skip
      intro vals a W hS hL; have e4 : a.tmps.getD 4 undef = .int .i64 k := hL.1; have e7 : a.tmps.getD 7 undef = .agg #[.int .i64 m, .int .i64 s] := hL.2.1; have e9 : a.tmps.getD 9 undef = .string t := hL.2.2.1; have e11 : a.tmps.getD 11 undef = .bool b := hL.2.2.2.1; have e13 : a.tmps.getD 13 undef = .int .i64 e := hL.2.2.2.2.1; clear hL; rw [Array.getD_eq_getD_getElem?] at e4 e7 e9 e11 e13; go_simp; exact ⟨dstY (by rfl), hS, trivial⟩
    · skip
      intro a W vals hv hS hL hp; have e2 : a.tmps.getD 2 undef = .pointer (some ⟨w.heap.size + 1, 0, none⟩) := hL.1; have e14 : a.tmps.getD 14 undef = .agg #[.int .i64 k, .int .i64 m, .int .i64 s, .string t, .bool b, .int .i64 e] := hL.2.1; clear hL
      match vals, hv, hS with
      | [], _, hS =>
        have hS2 : SX w 2 ([.put 0 #[.int .i64 k, .int .i64 m, .int .i64 s, .string t, .bool b, .int .i64 e]] : List Stp) [] ([(w.heap.size + 1, 41, #[.int .i64 0, .int .i64 0, .int .i64 0, .string ⟨#[]⟩, .bool false, .int .i64 0]), (w.heap.size, 25, #[.int .i64 k, .int .i64 m, .int .i64 s, .string t, .bool b, .int .i64 e])] : List (Nat × TypeId × Array Value)) W := hS; clear hS; have hB0 := hS2; have hB : SB w 2 ([(w.heap.size + 1, 41, #[.int .i64 0, .int .i64 0, .int .i64 0, .string ⟨#[]⟩, .bool false, .int .i64 0]), (w.heap.size, 25, #[.int .i64 k, .int .i64 m, .int .i64 s, .string t, .bool b, .int .i64 e])] : List (Nat × TypeId × Array Value)) W := hB0; clear hB0; rw [Array.getD_eq_getD_getElem?] at e14; have kz := hB.box (i := 0) rfl; have z0 := kz.frozen 0; have q0 := kz.cell 0; have z1 := kz.frozen 1; have q1 := kz.cell 1; have z2 := kz.frozen 2; have q2 := kz.cell 2; have z3 := kz.frozen 3; have q3 := kz.cell 3; have z4 := kz.frozen 4; have q4 := kz.cell 4; have z5 := kz.frozen 5; have q5 := kz.cell 5; have hge : w.heap.size ≤ (w.heap.size + 1) := by omega
        have hne : ∀ qx ∈ butBox ([(w.heap.size + 1, 41, #[.int .i64 0, .int .i64 0, .int .i64 0, .string ⟨#[]⟩, .bool false, .int .i64 0]), (w.heap.size, 25, #[.int .i64 k, .int .i64 m, .int .i64 s, .string t, .bool b, .int .i64 e])] : List (Nat × TypeId × Array Value)) 0, qx.1 ≠ (w.heap.size + 1) := by simp [butBox] <;> omega
        have hF := hB.put6 (i := 0) rfl hge hne (.int .i64 k : Value) (.int .i64 m : Value) (.int .i64 s : Value) (.string t : Value) (.bool b : Value) (.int .i64 e : Value); clear kz hB hne hge; go_simp; exact ⟨hF, trivial, trivial⟩
  · intro a W' vals hd hsz hT hF hv hP hS
    obtain ⟨v0, rfl⟩ : ∃ v0, vals = [v0] := by
      match vals, hv with
      | [v0], _ => exact ⟨v0, rfl⟩
    have hS2 : SX w 2 ([.put 0 #[.int .i64 k, .int .i64 m, .int .i64 s, .string t, .bool b, .int .i64 e]] : List Stp) [v0] ([(w.heap.size + 1, 41, #[.int .i64 0, .int .i64 0, .int .i64 0, .string ⟨#[]⟩, .bool false, .int .i64 0]), (w.heap.size, 25, #[.int .i64 k, .int .i64 m, .int .i64 s, .string t, .bool b, .int .i64 e])] : List (Nat × TypeId × Array Value)) W' := hS; clear hS; have hB0 := hS2; have hB : SB w 2 ([(w.heap.size + 1, 41, #[.int .i64 k, .int .i64 m, .int .i64 s, .string t, .bool b, .int .i64 e]), (w.heap.size, 25, #[.int .i64 k, .int .i64 m, .int .i64 s, .string t, .bool b, .int .i64 e])] : List (Nat × TypeId × Array Value)) W' := hB0; clear hB0; have kz0 := hB.box (i := 0) rfl; have r0_0 := kz0.cell 0; have r0_1 := kz0.cell 1; have r0_2 := kz0.cell 2; have r0_3 := kz0.cell 3; have r0_4 := kz0.cell 4; have r0_5 := kz0.cell 5; clear kz0; have e2 : a.tmps.getD 2 undef = .pointer (some ⟨w.heap.size + 1, 0, none⟩) := hT 2 (by simp); clear hT hF hP; go_wp2; refine bodyPost_ret (v := .agg #[.int .i64 k, .int .i64 m, .int .i64 s, .string t, .bool b, .int .i64 e]) ?_ hd ⟨rfl, hB.bel⟩; rw [Array.getD_eq_getD_getElem?] at e2; simp [results, Tryz.results27, go_sem, e2, r0_0, r0_1, r0_2, r0_3, r0_4, r0_5]
end Go.Proofs.YtlaiocdnddnnaaaGreatDoor
