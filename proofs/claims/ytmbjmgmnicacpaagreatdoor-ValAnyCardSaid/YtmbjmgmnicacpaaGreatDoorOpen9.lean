/- What the statements' proofs stand on: a value's form; strconv.FormatUint from its laid table. No condition. -/
import Derived.Test.YtmbjmgmnicacpaaGreatDoorFm
import Derived.Lib.SmallJoins
import Derived.Lib.LaidTab
import Derived.Stop.LaidErr
namespace Go.Proofs.YtmbjmgmnicacpaaGreatDoor
open Go.ChangeShapes Go.WideShapes Go.RowKit Go.Joins Go.Sort

section
variable {H : Type} {enc : TypeId × Value → H} {P : Program} {W : World} {base b0 : Nat} {sp : Nat → Bool} {held : Bool} {r : Reach} {v : Value} {d : DataW H} {p : List MemPlace}
theorem trod_struct5 {t : TypeId} {f0 f1 f2 f3 f4 : Field} {fuel : Nat} {cs : List Value} {x : DataW H × List MemPlace} (ht : P.underlying t = some (.struct #[f0, f1, f2, f3, f4])) (h : DataW.trod enc P W base sp held fuel t cs = some x) :
    ∃ y0 y1 y2 y3 y4 n, DataW.trod enc P W base sp held n f0.type ((cs.drop f0.offset).take (P.cellsOf f0.type)) = some y0 ∧
      DataW.trod enc P W base sp held n f1.type ((cs.drop f1.offset).take (P.cellsOf f1.type)) = some y1 ∧ DataW.trod enc P W base sp held n f2.type ((cs.drop f2.offset).take (P.cellsOf f2.type)) = some y2 ∧
      DataW.trod enc P W base sp held n f3.type ((cs.drop f3.offset).take (P.cellsOf f3.type)) = some y3 ∧ DataW.trod enc P W base sp held n f4.type ((cs.drop f4.offset).take (P.cellsOf f4.type)) = some y4 := by
  obtain ⟨xs, n, _, rfl, hl, hlen, hf⟩ := DataW.trod_struct ht h
  match xs, hlen with
  | [y0, y1, y2, y3, y4], _ => exact ⟨y0, y1, y2, y3, y4, n, by simpa using hf 0 f0 rfl, by simpa using hf 1 f1 rfl, by simpa using hf 2 f2 rfl, by simpa using hf 3 f3 rfl, by simpa using hf 4 f4 rfl⟩
set_option maxRecDepth 100000 in
theorem val_form (hv : Value.okWide Tryz.prog W r b0 25 v) (h : DataW.Trod enc Tryz.prog W base sp held 25 v d p) :
    ∃ (k m s : Int) (t : ByteArray) (b : Bool) (e : Int), v = .agg #[.int .i64 k, .int .i64 m, .int .i64 s, .string t, .bool b, .int .i64 e] ∧ (Lit.int .i64 m).wf = true := by
  obtain ⟨cs, rfl, hsz⟩ := okWide_struct Tryz.underlying25 hv
  obtain ⟨l⟩ := cs
  have h6 : l.length = 6 := hsz.trans (by kernel_rfl)
  match l, h6 with
  | [c0, c1, c2, c3, c4, c5], _ =>
    obtain ⟨fuel, hf⟩ := h
    obtain ⟨y0, y1, y2, y3, y4, n, h0, h1, h2, h3, h4⟩ := trod_struct5 Tryz.underlying25 hf
    have h0' : DataW.trod enc Tryz.prog W base sp held n 3 [c0] = some y0 := h0
    have h1' : DataW.trod enc Tryz.prog W base sp held n 23 [c1, c2] = some y1 := h1
    have h2' : DataW.trod enc Tryz.prog W base sp held n 9 [c3] = some y2 := h2
    have h3' : DataW.trod enc Tryz.prog W base sp held n 4 [c4] = some y3 := h3
    have h4' : DataW.trod enc Tryz.prog W base sp held n 3 [c5] = some y4 := h4
    obtain ⟨z0, z1, n', -, -, g0, g1⟩ := trod_struct2 Tryz.underlying23 h1'
    have g0' : DataW.trod enc Tryz.prog W base sp held n' 2 [c1] = some z0 := g0
    have g1' : DataW.trod enc Tryz.prog W base sp held n' 3 [c2] = some z1 := g1
    obtain ⟨k, e0, -, -⟩ := DataW.trod_int Tryz.underlying3 h0'
    obtain ⟨m, e1, -, hm⟩ := DataW.trod_int Tryz.underlying2 g0'
    obtain ⟨s, e2, -, -⟩ := DataW.trod_int Tryz.underlying3 g1'
    obtain ⟨t, e3, -, -⟩ := DataW.trod_string Tryz.underlying9 h2'
    obtain ⟨b, e4, -⟩ := DataW.trod_bool Tryz.underlying4 h3'
    obtain ⟨e, e5, -, -⟩ := DataW.trod_int Tryz.underlying3 h4'
    injection e0 with e0
    injection e1 with e1
    injection e2 with e2
    injection e3 with e3
    injection e4 with e4
    injection e5 with e5
    exact ⟨k, m, s, t, b, e, by rw [e0, e1, e2, e3, e4, e5], hm⟩
end
theorem tab_of {d1 d2 : DataW Unit} {n1 n2 : String} {rest : List (String × DataW Unit)} {W : World} (hL : laidMet Tryz.prog ((n1, d1) :: (n2, d2) :: ("internal/strconv.uint64pow10", Lib.tabData .u64 Lib.pow10Tab) :: rest) W) : Lib.TabIs Tryz.prog W "internal/strconv.uint64pow10" .u64 Lib.pow10Tab :=
  Lib.tabIs_of_head (g := 3) (by kernel_rfl) (by kernel_rfl) Tryz.underlying159 Tryz.underlying89 (by kernel_rfl) (by kernel_rfl) hL.tail.tail
end Go.Proofs.YtmbjmgmnicacpaaGreatDoor
