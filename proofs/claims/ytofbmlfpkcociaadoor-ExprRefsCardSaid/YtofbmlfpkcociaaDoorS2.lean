/- Two stacks begun in one region, in any order: what holds by which of its operations have been done. No condition. -/
import Derived.Test.YtofbmlfpkcociaaDoorEf
import Derived.Test.YtofbmlfpkcociaaDoorMs
set_option linter.unusedVariables false
set_option linter.unusedSimpArgs false
namespace Go.Proofs.YtofbmlfpkcociaaDoor
open Go.RowKit

theorem row_oneF {W : World} {F : Nat → Prop} {g c : Nat} {p : Pay} {ks : List Tr} {A : Option Addr} (hk : Bk W g 43 (ec p (.slice A ks.length c)).toArray) (hg : F g) (hc : ks.length ≤ c) (hr : RowF treeF W F A ks.length ks) :
    RowF treeF W F (some ⟨g, 0, none⟩) [Tr.mk p ks].length [.mk p ks] := by
  refine ⟨rfl, fun _ => ⟨_, rfl, hg, fun i t hi => ?_⟩⟩
  match i, hi with
  | 0, hi =>
    simp only [List.getElem?_cons_zero, Option.some.injEq] at hi
    subst hi
    refine ⟨ec p (.slice A ks.length c), tree_mk.2 ⟨A, c, rfl, hc, hr⟩, fun j u hu => ?_⟩
    rw [show 0 * treeF.k + j = j by simp, addr_zero, hk.cell]
    simpa using hu

/-- A stack just begun: its row, its root's block, its Kids' ones below b0. -/
def SF (b0 : Nat) (t : Tr) (v : Value) (W : World) : Prop := ∃ r xs, b0 ≤ r ∧ (∃ cs, Bk W r 43 cs) ∧ W.ownsRow b0 41 1 v 1 xs ∧ HdrF W (fun i => i < b0 ∨ i = r) xs [[t]]

set_option maxRecDepth 20000 in
theorem startF_any {w : World} {b0 : Nat} (hb0 : b0 ≤ w.heap.size) {p : Pay} {ks : List Tr} {A : Option Addr} {c : Nat} (hc : ks.length ≤ c) (hr : RowF treeF w (· < b0) A ks.length ks) :
    Calls Tryd.prog 23 #[.agg (ec p (.slice A ks.length c)).toArray] w fun e W => ∃ v, e = .returned v ∧ Below w.heap.size w W ∧ SF b0 (.mk p ks) v W ∧ ∀ i, v.ownBlock = some i → w.heap.size ≤ i := by
  have HR := Lib.hid (And.intro hb0 (And.intro hc hr))
  have HB := Lib.hid (bel2 w)
  have hbx := Bk.new w 43 (ec p (.slice A ks.length c)).toArray
  clear hb0 hc hr
  generalize hes : ec p (.slice A ks.length c) = es at *
  go_enter Tryd.func23, Tryd.ntmps23
  subst hes
  repeat' (first | ((with_reducible show Oper.wp _ _ _ _ _ _); apply ld_p; exact rfl; exact rfl; assumption; go_simp) | ((with_reducible show Oper.wp _ _ _ _ _ _); apply bs_1; exact rfl; exact rfl; go_simp) | go_values | go_skip | go_guarded | go_step | go_upon)
  go_ret
  obtain ⟨hb0, hc, hr⟩ := HR.out
  refine ⟨.slice (some ⟨w.heap.size + 2, 0, none⟩) 1 1, rfl, HB.out _ _ _, ⟨w.heap.size + 1, [.slice (some ⟨w.heap.size + 1, 0, none⟩) 1 1], by omega, ?_, own_mono (made_row (Nat.le_refl _) (by simp)) (by omega), ?_⟩, fun i hi => ?_⟩
  · have k1 : Bk ((w.alloc (.cells (ec p (.slice A ks.length c)).toArray 43)).alloc (.cells (ec p (.slice A ks.length c)).toArray 43)) (w.heap.size + 1) 43 (ec p (.slice A ks.length c)).toArray := by simpa using Bk.new (w.alloc (.cells (ec p (.slice A ks.length c)).toArray 43)) 43 (ec p (.slice A ks.length c)).toArray
    exact ⟨_, k1.alloc _⟩
  · have hb := HB.out (.cells (ec p (.slice A ks.length c)).toArray 43) (.cells (ec p (.slice A ks.length c)).toArray 43) (.cells #[.slice (some ⟨w.heap.size + 1, 0, none⟩) 1 1] 41)
    have k1 : Bk ((w.alloc (.cells (ec p (.slice A ks.length c)).toArray 43)).alloc (.cells (ec p (.slice A ks.length c)).toArray 43)) (w.heap.size + 1) 43 (ec p (.slice A ks.length c)).toArray := by simpa using Bk.new (w.alloc (.cells (ec p (.slice A ks.length c)).toArray 43)) 43 (ec p (.slice A ks.length c)).toArray
    have k2 := k1.alloc (.cells #[.slice (some ⟨w.heap.size + 1, 0, none⟩) 1 1] 41)
    generalize ((w.alloc (.cells (ec p (.slice A ks.length c)).toArray 43)).alloc (.cells (ec p (.slice A ks.length c)).toArray 43)).alloc (.cells #[.slice (some ⟨w.heap.size + 1, 0, none⟩) 1 1] 41) = W at *
    intro i ts hi
    match i, hi with
    | 0, hi =>
      simp only [List.getElem?_cons_zero, Option.some.injEq] at hi
      subst hi
      exact ⟨_, 1, rfl, by simp, row_oneF k2 (.inr rfl) hc (hr.move (Move.of_below hb (fun i hi => by omega) fun i hi => .inl hi))⟩
  · have := Option.some.inj (show some (w.heap.size + 2) = some i from hi)
    omega

theorem SF.keep {b0 : Nat} {t : Tr} {v : Value} {W W' : World} {S : Nat → Prop} (h : SF b0 t v W) (hK : Keep S W W') (hb0 : b0 ≤ W.heap.size) (hS : ∀ i, i < W.heap.size → S i → b0 ≤ i ∧ ∃ cs, Bk W i 64 cs) : SF b0 t v W' := by
  obtain ⟨r, xs, h1, ⟨cs, h2⟩, h3, h4⟩ := h
  have hr : ¬ S r := fun e => by
    obtain ⟨-, cs', h5⟩ := hS r h2.lt e
    unfold Bk at h2 h5
    rw [h2] at h5
    injection h5 with h5
    injection h5 with _ h5
    exact absurd h5 (by decide)
  refine ⟨r, xs, h1, ⟨cs, hK.bk h2 hr⟩, hK.own h3 fun i hi e => ?_, h4.move (hK.move (fun i hi => ?_) fun _ h => h)⟩
  · obtain ⟨-, cs', h5⟩ := hS i (h3.lt i hi).2 e
    exact own_ne h3 h5 (by decide) hi
  · rcases hi with hi | rfl
    · exact ⟨by omega, fun e => by have := (hS i (by omega) e).1; omega⟩
    · exact ⟨h2.lt, hr⟩

structure S2 (w1 : World) (t1 t2 : Tr) (a5 a6 c1 c2 s1 s2 : Option Value) (W : World) : Prop where
  bel : Below w1.heap.size w1 W
  x1 : ∀ v, a5 = some v → ∃ g u, v = .pointer (some ⟨g, 0, none⟩) ∧ w1.heap.size ≤ g ∧ Bk W g 64 #[u] ∧ (s1.isSome = true → c1 = some u)
  x2 : ∀ v, a6 = some v → ∃ g u, v = .pointer (some ⟨g, 0, none⟩) ∧ w1.heap.size ≤ g ∧ Bk W g 64 #[u] ∧ (s2.isSome = true → c2 = some u)
  y1 : ∀ v, c1 = some v → SF w1.heap.size t1 v W
  y2 : ∀ v, c2 = some v → SF w1.heap.size t2 v W
  ab : ∀ v v', a5 = some v → a6 = some v' → v ≠ v'
  ob : ∀ v v', c1 = some v → c2 = some v' → ∀ i, v.ownBlock = some i → v'.ownBlock ≠ some i
  z1 : a5 = none → s1 = none
  z2 : a6 = none → s2 = none
section
variable {w1 W W' : World} {t1 t2 : Tr} {a5 a6 c1 c2 s1 s2 : Option Value}
theorem S2.size (h : S2 w1 t1 t2 a5 a6 c1 c2 s1 s2 W) : w1.heap.size ≤ W.heap.size := h.bel.size
theorem S2.below (h : S2 w1 t1 t2 a5 a6 c1 c2 s1 s2 W) (hb : Below W.heap.size W W') : S2 w1 t1 t2 a5 a6 c1 c2 s1 s2 W' := by
  have hk : Keep (fun i => W.heap.size ≤ i) W W' := Keep.of_below hb fun i _ h => h
  refine ⟨h.bel.trans (hb.mono h.size), fun v hv => ?_, fun v hv => ?_, fun v hv => (h.y1 v hv).keep hk h.size fun i hi e => by omega, fun v hv => (h.y2 v hv).keep hk h.size fun i hi e => by omega, h.ab, h.ob, h.z1, h.z2⟩
  · obtain ⟨g, u, e1, e2, e3, e4⟩ := h.x1 v hv
    exact ⟨g, u, e1, e2, e3.below hb e3.lt, e4⟩
  · obtain ⟨g, u, e1, e2, e3, e4⟩ := h.x2 v hv
    exact ⟨g, u, e1, e2, e3.below hb e3.lt, e4⟩
theorem S2.own1 (h : S2 w1 t1 t2 a5 a6 c1 c2 s1 s2 W) {v : Value} (hv : c1 = some v) : ∀ i, v.ownBlock = some i → i < W.heap.size := by
  obtain ⟨r, xs, -, -, h3, -⟩ := h.y1 v hv
  exact fun i hi => (h3.lt i hi).2
theorem S2.own2 (h : S2 w1 t1 t2 a5 a6 c1 c2 s1 s2 W) {v : Value} (hv : c2 = some v) : ∀ i, v.ownBlock = some i → i < W.heap.size := by
  obtain ⟨r, xs, -, -, h3, -⟩ := h.y2 v hv
  exact fun i hi => (h3.lt i hi).2
theorem S2.box1 (h : S2 w1 t1 t2 none a6 c1 c2 s1 s2 W) {z : Value} : S2 w1 t1 t2 (some (.pointer (some ⟨W.heap.size, 0, none⟩))) a6 c1 c2 s1 s2 (W.alloc (.cells #[z] 64)) := by
  have hb := h.below (bel0 W (.cells #[z] 64))
  refine ⟨hb.bel, fun v hv => ?_, hb.x2, hb.y1, hb.y2, fun v v' hv hv' e => ?_, hb.ob, fun e => (by cases e), hb.z2⟩
  · injection hv with hv
    exact ⟨_, z, hv.symm, h.size, Bk.new _ _ _, fun e => by rw [h.z1 rfl] at e; cases e⟩
  · injection hv with hv
    obtain ⟨g, u, e1, -, e3, -⟩ := h.x2 v' hv'
    rw [← hv, e1] at e
    injection e with e
    injection e with e
    injection e with e
    have := e3.lt
    omega
theorem S2.box2 (h : S2 w1 t1 t2 a5 none c1 c2 s1 s2 W) {z : Value} : S2 w1 t1 t2 a5 (some (.pointer (some ⟨W.heap.size, 0, none⟩))) c1 c2 s1 s2 (W.alloc (.cells #[z] 64)) := by
  have hb := h.below (bel0 W (.cells #[z] 64))
  refine ⟨hb.bel, hb.x1, fun v hv => ?_, hb.y1, hb.y2, fun v v' hv hv' e => ?_, hb.ob, hb.z1, fun e => (by cases e)⟩
  · injection hv with hv
    exact ⟨_, z, hv.symm, h.size, Bk.new _ _ _, fun e => by rw [h.z2 rfl] at e; cases e⟩
  · injection hv' with hv'
    obtain ⟨g, u, e1, -, e3, -⟩ := h.x1 v hv
    rw [← hv', e1] at e
    injection e with e
    injection e with e
    injection e with e
    have := e3.lt
    omega
theorem S2.call1 (h : S2 w1 t1 t2 a5 a6 none c2 s1 s2 W) {v : Value} (hb : Below W.heap.size W W') (hv : SF w1.heap.size t1 v W') (ho : ∀ i, v.ownBlock = some i → W.heap.size ≤ i) : S2 w1 t1 t2 a5 a6 (some v) c2 s1 s2 W' := by
  have h' := h.below hb
  refine ⟨h'.bel, fun u hu => ?_, h'.x2, fun u hu => ?_, h'.y2, h'.ab, fun u u' hu hu' i hi e => ?_, h'.z1, h'.z2⟩
  · obtain ⟨g, x, e1, e2, e3, e4⟩ := h'.x1 u hu
    exact ⟨g, x, e1, e2, e3, fun e => by cases e4 e⟩
  · injection hu with hu
    subst hu
    exact hv
  · injection hu with hu
    subst hu
    have h1 := ho i hi
    have h2 := h.own2 hu' i e
    omega
theorem S2.call2 (h : S2 w1 t1 t2 a5 a6 c1 none s1 s2 W) {v : Value} (hb : Below W.heap.size W W') (hv : SF w1.heap.size t2 v W') (ho : ∀ i, v.ownBlock = some i → W.heap.size ≤ i) : S2 w1 t1 t2 a5 a6 c1 (some v) s1 s2 W' := by
  have h' := h.below hb
  refine ⟨h'.bel, h'.x1, fun u hu => ?_, h'.y1, fun u hu => ?_, h'.ab, fun u u' hu hu' i hi e => ?_, h'.z1, h'.z2⟩
  · obtain ⟨g, x, e1, e2, e3, e4⟩ := h'.x2 u hu
    exact ⟨g, x, e1, e2, e3, fun e => by cases e4 e⟩
  · injection hu with hu
    subst hu
    exact hv
  · injection hu' with hu'
    subst hu'
    have h1 := ho i e
    have h2 := h.own1 hu i hi
    omega
theorem S2.store1 {g : Nat} {v x : Value} (h : S2 w1 t1 t2 (some (.pointer (some ⟨g, 0, none⟩))) a6 (some v) c2 s1 s2 W) : S2 w1 t1 t2 (some (.pointer (some ⟨g, 0, none⟩))) a6 (some v) c2 (some x) s2 (W.setCell ⟨g, 0, none⟩ v) := by
  obtain ⟨g', u, e1, e2, e3, -⟩ := h.x1 _ rfl
  injection e1 with e1
  injection e1 with e1
  injection e1 with e1
  subst e1
  have hk : Keep (fun i => i = g) W (W.setCell ⟨g, 0, none⟩ v) := (Keep.refl (fun i => i = g) W).setCell (p := ⟨g, 0, none⟩) (fun _ => rfl) v
  have hS : ∀ i, i < W.heap.size → i = g → w1.heap.size ≤ i ∧ ∃ cs, Bk W i 64 cs := fun i _ e => by subst e; exact ⟨e2, _, e3⟩
  refine ⟨h.bel.setCell (p := ⟨g, 0, none⟩) e2 v, fun y hy => ?_, fun y hy => ?_, fun y hy => (h.y1 y hy).keep hk h.size hS, fun y hy => (h.y2 y hy).keep hk h.size hS, h.ab, h.ob, fun e => (by cases e), h.z2⟩
  · injection hy with hy
    exact ⟨g, v, hy.symm, e2, by have := e3.set_ 0 v; simpa using this, fun _ => rfl⟩
  · obtain ⟨g2, u2, f1, f2, f3, f4⟩ := h.x2 y hy
    refine ⟨g2, u2, f1, f2, hk.bk f3 fun e => ?_, f4⟩
    subst e
    exact h.ab _ _ rfl hy (by rw [f1])
theorem S2.store2 {g : Nat} {v x : Value} (h : S2 w1 t1 t2 a5 (some (.pointer (some ⟨g, 0, none⟩))) c1 (some v) s1 s2 W) : S2 w1 t1 t2 a5 (some (.pointer (some ⟨g, 0, none⟩))) c1 (some v) s1 (some x) (W.setCell ⟨g, 0, none⟩ v) := by
  obtain ⟨g', u, e1, e2, e3, -⟩ := h.x2 _ rfl
  injection e1 with e1
  injection e1 with e1
  injection e1 with e1
  subst e1
  have hk : Keep (fun i => i = g) W (W.setCell ⟨g, 0, none⟩ v) := (Keep.refl (fun i => i = g) W).setCell (p := ⟨g, 0, none⟩) (fun _ => rfl) v
  have hS : ∀ i, i < W.heap.size → i = g → w1.heap.size ≤ i ∧ ∃ cs, Bk W i 64 cs := fun i _ e => by subst e; exact ⟨e2, _, e3⟩
  refine ⟨h.bel.setCell (p := ⟨g, 0, none⟩) e2 v, fun y hy => ?_, fun y hy => ?_, fun y hy => (h.y1 y hy).keep hk h.size hS, fun y hy => (h.y2 y hy).keep hk h.size hS, h.ab, h.ob, h.z1, fun e => (by cases e)⟩
  · obtain ⟨g2, u2, f1, f2, f3, f4⟩ := h.x1 y hy
    refine ⟨g2, u2, f1, f2, hk.bk f3 fun e => ?_, f4⟩
    subst e
    exact h.ab _ _ hy rfl (by rw [f1])
  · injection hy with hy
    exact ⟨g, v, hy.symm, e2, by have := e3.set_ 0 v; simpa using this, fun _ => rfl⟩
end
/-- By the row of values. -/
def S2L (w1 : World) (t1 t2 : Tr) : List (Option Value) → World → Prop
  | [a5, a6, c1, c2, s1, s2], W => S2 w1 t1 t2 a5 a6 c1 c2 s1 s2 W
  | _, _ => False
end Go.Proofs.YtofbmlfpkcociaaDoor
