/- Two rows of the call's own that grow in turns: trees, their places. No condition. -/
import Derived.Test.YtofbmlfpkcociaaDoorRf
import Derived.Test.YtofbmlfpkcociaaDoorTo
import Derived.Test.YtofbmlfpkcociaaDoorPt
set_option linter.unusedVariables false
set_option linter.unusedSimpArgs false
namespace Go.Proofs.YtofbmlfpkcociaaDoor
open Go.RowKit

/-- Blocks of the call's own, the two rows' apart. -/
def Fx (base : Nat) (u v : Value) (W : World) (i : Nat) : Prop := base ≤ i ∧ i < W.heap.size ∧ u.ownBlock ≠ some i ∧ v.ownBlock ≠ some i
structure RfL (w2 : World) (ks : List Tr) (ps : List Pay) (u v : Value) (W : World) : Prop where
  bel : Below w2.heap.size w2 W
  kids : OwnF treeF W (Fx w2.heap.size u v W) w2.heap.size 43 u ks
  want : W.ownsRow w2.heap.size 43 18 v ps.length (ps.flatMap lc)
  apart : ∀ i, u.ownBlock = some i → v.ownBlock ≠ some i

section
variable {w2 W W' : World} {ks : List Tr} {ps : List Pay} {u v u' v' : Value}
theorem RfL.start (w2 : World) : RfL w2 [] [] (.slice none 0 0) (.slice none 0 0) w2 := ⟨Below.refl _ _, OwnF.nil _ _ _ _ _, World.ownsRow_nil _ _ _ _, fun i h => by simp [Value.ownBlock] at h⟩
theorem RfL.below (h : RfL w2 ks ps u v W) (hb : Below W.heap.size W W') : RfL w2 ks ps u v W' := by
  have hK := Keep.of_below (S := fun i => W.heap.size ≤ i) hb fun i _ h => h
  refine ⟨h.bel.trans (hb.mono h.bel.size), h.kids.keep hK (fun i hi hh => by have := (h.kids.lt i hi).2; omega) ?_, hK.own h.want fun i hi hh => by have := (h.want.lt i hi).2; omega, h.apart⟩
  exact Move.of_below hb (fun i hi => hi.2.1) fun i hi => ⟨hi.1, by have := hb.size; have := hi.2.1; omega, hi.2.2⟩
/-- One tree more. -/
theorem RfL.kid (h : RfL w2 ks ps u v W) {S : List (List Value × Tr)} (hS1 : S.map (·.2) = ks) (hS2 : ∀ x ∈ S, treeF.R W (Fx w2.heap.size u v W) x.1 x.2) {p : Pay} {ts : List Tr} {A : Option Addr} {c : Nat} (hc : ts.length ≤ c) (hr : RowF treeF W (Fx w2.heap.size u v W) A ts.length ts)
    (ho : W'.ownsRow w2.heap.size 43 18 u' (ks.length + 1) (S.flatMap (·.1) ++ ec p (.slice A ts.length c))) (hG : Grew W W' u u') (hb : Below w2.heap.size W W') :
    RfL w2 (ks ++ [.mk p ts]) ps u' v W' ∧ RowF treeF W' (· < W'.heap.size) A ts.length ts := by
  have hK : Keep (fun i => u.ownBlock = some i) W W' := Keep.of_grew hG fun i hi => hi.symm
  have hm : Move W (Fx w2.heap.size u v W) W' (Fx w2.heap.size u' v W') := hK.move (fun i hi => ⟨hi.2.1, hi.2.2.1⟩) fun i hi => ⟨hi.1, by have := hK.size; have := hi.2.1; omega, fun e => by
    rcases hG.lies with hl | ⟨g, hl, hg⟩
    · exact hi.2.2.1 (hl.symm.trans e)
    · rw [e] at hl
      injection hl with hl
      have := hi.2.1
      omega, hi.2.2.2⟩
  have hr' := hr.move hm
  refine ⟨⟨h.bel.trans hb, OwnF.snoc hS1 hS2 hm (tree_mk.2 ⟨A, c, rfl, hc, hr'⟩) ho, hK.own h.want fun i hi e => h.apart i e hi, fun i hi e => ?_⟩, hr'.move (Move.wide fun i hi => hi.2.1)⟩
  rcases hG.lies with hl | ⟨g, hl, hg⟩
  · exact h.apart i (hl.symm.trans hi) e
  · rw [hi] at hl
    injection hl with hl
    have := (h.want.lt i e).2
    omega
/-- Its places. -/
theorem RfL.more (h : RfL w2 ks ps u v W) {qs : List Pay} (ho : W'.ownsRow w2.heap.size 43 18 v' (ps.length + qs.length) (ps.flatMap lc ++ qs.flatMap lc)) (hG : Grew W W' v v') (hb : Below w2.heap.size W W') : RfL w2 ks (ps ++ qs) u v' W' := by
  have hK : Keep (fun i => v.ownBlock = some i) W W' := Keep.of_grew hG fun i hi => hi.symm
  have hm : Move W (Fx w2.heap.size u v W) W' (Fx w2.heap.size u v' W') := hK.move (fun i hi => ⟨hi.2.1, hi.2.2.2⟩) fun i hi => ⟨hi.1, by have := hK.size; have := hi.2.1; omega, hi.2.2.1, fun e => by
    rcases hG.lies with hl | ⟨g, hl, hg⟩
    · exact hi.2.2.2 (hl.symm.trans e)
    · rw [e] at hl
      injection hl with hl
      have := hi.2.1
      omega⟩
  refine ⟨h.bel.trans hb, h.kids.keep hK (fun i hi e => h.apart i hi e) hm, by rw [List.length_append, List.flatMap_append]; exact ho, fun i hi e => ?_⟩
  rcases hG.lies with hl | ⟨g, hl, hg⟩
  · exact h.apart i hi (hl.symm.trans e)
  · rw [e] at hl
    injection hl with hl
    have := (h.kids.lt i hi).2
    omega
end
theorem flat_one {qs : List Pay} : ∀ u ∈ qs.flatMap lc, u.oneCell' = true := by
  intro u hu
  obtain ⟨p, -, hp⟩ := List.mem_flatMap.1 hu
  exact lc_one u hp
theorem own_rfv {W : World} {base : Nat} {v : Value} {ps : List Pay} (h : W.ownsRow base 43 18 v ps.length (ps.flatMap lc)) : RfV ps v W := by
  obtain ⟨S, cr, rfl, hle, -, hrd⟩ := own_form h
  refine ⟨S, cr, rfl, hle, fun hn => ?_⟩
  obtain ⟨a, ha, hlt, hcell⟩ := hrd.at_ hn
  exact ⟨a, ha, hlt, fun i p hi q u hu => by rw [add_add]; exact hcell _ _ (flat_lc hi hu)⟩
end Go.Proofs.YtofbmlfpkcociaaDoor
