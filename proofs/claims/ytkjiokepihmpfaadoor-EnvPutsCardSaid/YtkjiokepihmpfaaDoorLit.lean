/- An act by its slots: for the end of a region that leaves an act by facts. No condition. -/
import Derived.Test.YtkjiokepihmpfaaDoorMem
set_option linter.unusedVariables false
set_option linter.unusedSimpArgs false
namespace Go.Proofs.YtkjiokepihmpfaaDoor
open Go.RowKit

theorem act_lit (n : Nat) (x : Act) (hd : x.defers = []) (hs : x.tmps.size = n) : x = { tmps := ((List.range n).map fun i => x.tmps.getD i undef).toArray, defers := [] } := by
  obtain ⟨t, d⟩ := x
  simp only at hd hs ⊢
  subst hd
  congr 1
  apply Array.ext
  · simp [hs]
  · intro i h1 h2
    simp [Array.getD_eq_getD_getElem?, h1]
end Go.Proofs.YtkjiokepihmpfaaDoor
