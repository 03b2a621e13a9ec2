/- A place as an argument, by its form. No condition. -/
import Derived.Test.YtkjiokepihmpfaaDoorLw14
import Derived.Lib.SmallJoins
import Derived.ProofKit
import Derived.OpenShut
set_option linter.unusedVariables false
set_option linter.unusedSimpArgs false
namespace Go.Proofs.YtkjiokepihmpfaaDoor
open Go.ChangeShapes Go.WideShapes Go.RowKit Go.Joins

section
variable {H : Type} {enc : TypeId × Value → H} {W : World} {base b0 : Nat} {sp : Nat → Bool} {held : Bool} {r : Reach} {v : Value} {d : DataW H} {p : List MemPlace}
set_option maxRecDepth 20000 in
theorem place_form (hv : Value.okWide Tryd.prog W r b0 40 v) (h : DataW.Trod enc Tryd.prog W base sp held 40 v d p) : ∃ x : Pl, v = .agg (plc x).toArray := by
  obtain ⟨cs, rfl, hsz⟩ := okWide_struct Tryd.underlying40 hv
  obtain ⟨l⟩ := cs
  have h3 : l.length = 3 := hsz.trans (by kernel_rfl)
  match l, h3 with
  | [c0, c1, c2], _ =>
    obtain ⟨fuel, hf⟩ := h
    obtain ⟨y0, y1, n, -, -, h0, h1⟩ := trod_struct2 Tryd.underlying40 hf
    have h0' : DataW.trod enc Tryd.prog W base sp held n 3 [c0] = some y0 := h0
    have h1' : DataW.trod enc Tryd.prog W base sp held n 38 [c1, c2] = some y1 := h1
    obtain ⟨z0, z1, m, -, -, g0, g1⟩ := trod_struct2 Tryd.underlying38 h1'
    have g0' : DataW.trod enc Tryd.prog W base sp held m 3 [c1] = some z0 := g0
    have g1' : DataW.trod enc Tryd.prog W base sp held m 3 [c2] = some z1 := g1
    obtain ⟨a, e0, -, -⟩ := DataW.trod_int Tryd.underlying3 h0'
    obtain ⟨b, e1, -, -⟩ := DataW.trod_int Tryd.underlying3 g0'
    obtain ⟨c, e2, -, -⟩ := DataW.trod_int Tryd.underlying3 g1'
    injection e0 with e0
    injection e1 with e1
    injection e2 with e2
    subst e0 e1 e2
    exact ⟨⟨a, b, c⟩, rfl⟩
end
end Go.Proofs.YtkjiokepihmpfaaDoor
