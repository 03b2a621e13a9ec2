/- What the statements' proofs stand on: arguments by their forms; strconv.Itoa from its laid table. No condition. -/
import Derived.Test.YtgjijjdpkmdcgaaDoorTe
import Derived.Test.YtgjijjdpkmdcgaaDoorShelf
import Derived.Lib.SmallJoins
import Derived.Lib.LaidTab
import Derived.Lib.ItoaMem
import Derived.Stop.LaidErr
namespace Go.Proofs.YtgjijjdpkmdcgaaDoor
open Go.ChangeShapes Go.WideShapes Go.RowKit Go.Joins Go.Sort

section
variable {H : Type} {enc : TypeId × Value → H} {W : World} {base b0 : Nat} {sp : Nat → Bool} {held : Bool} {r : Reach} {v : Value} {d : DataW H} {p : List MemPlace}
theorem ref4 {fuel : Nat} {c0 c1 c2 c3 : Value} {x : DataW H × List MemPlace} (h : DataW.trod enc Tryd.prog W base sp held fuel 23 [c0, c1, c2, c3] = some x) :
    ∃ (a b : Int) (x y : Bool), c0 = .int .i64 a ∧ c1 = .int .i64 b ∧ c2 = .bool x ∧ c3 = .bool y := by
  obtain ⟨y0, y1, y2, y3, n, -, -, h0, h1, h2, h3⟩ := trod_struct4 Tryd.underlying23 h
  have h0' : DataW.trod enc Tryd.prog W base sp held n 3 [c0] = some y0 := h0
  have h1' : DataW.trod enc Tryd.prog W base sp held n 3 [c1] = some y1 := h1
  have h2' : DataW.trod enc Tryd.prog W base sp held n 4 [c2] = some y2 := h2
  have h3' : DataW.trod enc Tryd.prog W base sp held n 4 [c3] = some y3 := h3
  obtain ⟨a, e0, -, -⟩ := DataW.trod_int Tryd.underlying3 h0'
  obtain ⟨b, e1, -, -⟩ := DataW.trod_int Tryd.underlying3 h1'
  obtain ⟨x, e2, -⟩ := DataW.trod_bool Tryd.underlying4 h2'
  obtain ⟨y, e3, -⟩ := DataW.trod_bool Tryd.underlying4 h3'
  injection e0 with e0
  injection e1 with e1
  injection e2 with e2
  injection e3 with e3
  exact ⟨a, b, x, y, e0, e1, e2, e3⟩
theorem cell_form (hv : Value.okWide Tryd.prog W r b0 25 v) (h : DataW.Trod enc Tryd.prog W base sp held 25 v d p) : ∃ a b : Int, v = .agg #[.int .i64 a, .int .i64 b] := by
  obtain ⟨c, k, y, z, m, rfl, -, -, hy, hz⟩ := open_agg2 Tryd.underlying25 (by kernel_rfl) (by kernel_rfl) hv h
  obtain ⟨a, e, -, -⟩ := DataW.trod_int Tryd.underlying3 hy
  obtain ⟨b, e', -, -⟩ := DataW.trod_int Tryd.underlying3 hz
  injection e with e
  injection e' with e'
  exact ⟨a, b, by rw [e, e']⟩
theorem ref_form (hv : Value.okWide Tryd.prog W r b0 23 v) (h : DataW.Trod enc Tryd.prog W base sp held 23 v d p) : ∃ (a b : Int) (x y : Bool), v = .agg #[.int .i64 a, .int .i64 b, .bool x, .bool y] := by
  obtain ⟨cs, rfl, hsz⟩ := okWide_struct Tryd.underlying23 hv
  obtain ⟨c0, c1, c2, c3, rfl⟩ := array4 (hsz.trans (by kernel_rfl))
  obtain ⟨fuel, hf⟩ := h
  obtain ⟨a, b, x, y, rfl, rfl, rfl, rfl⟩ := ref4 hf
  exact ⟨a, b, x, y, rfl⟩
theorem area_form (hv : Value.okWide Tryd.prog W r b0 42 v) (h : DataW.Trod enc Tryd.prog W base sp held 42 v d p) : ∃ (a b a' b' : Int) (x y x' y' : Bool), v = .agg #[.int .i64 a, .int .i64 b, .bool x, .bool y, .int .i64 a', .int .i64 b', .bool x', .bool y'] := by
  obtain ⟨cs, rfl, hsz⟩ := okWide_struct Tryd.underlying42 hv
  obtain ⟨l⟩ := cs
  have h8 : l.length = 8 := hsz.trans (by kernel_rfl)
  match l, h8 with
  | [c0, c1, c2, c3, c4, c5, c6, c7], _ =>
    obtain ⟨fuel, hf⟩ := h
    obtain ⟨y0, y1, n, -, -, h0, h1⟩ := trod_struct2 Tryd.underlying42 hf
    have h0' : DataW.trod enc Tryd.prog W base sp held n 23 [c0, c1, c2, c3] = some y0 := h0
    have h1' : DataW.trod enc Tryd.prog W base sp held n 23 [c4, c5, c6, c7] = some y1 := h1
    obtain ⟨a, b, x, y, rfl, rfl, rfl, rfl⟩ := ref4 h0'
    obtain ⟨a', b', x', y', rfl, rfl, rfl, rfl⟩ := ref4 h1'
    exact ⟨a, b, a', b', x, y, x', y', rfl⟩
end

theorem below_grow (w : World) (k : Nat) (os : Array Obj) : Below w.heap.size w (grow (w.drewN k) os) :=
  ⟨rfl, rfl, rfl, by simp [grow, World.drewN], fun i hi => by
    show (w.heap ++ os)[i]? = w.heap[i]?
    rw [Array.getElem?_append_left hi]⟩
theorem tab_below {P : Program} {w w' : World} {name : String} {k : IntKind} {zs : List Int} (h : Lib.TabIs P w name k zs) (hb : Below w.heap.size w w') : Lib.TabIs P w' name k zs := by
  unfold Lib.TabIs World.var? at *
  cases hg : P.globalNamed name with
  | none => rw [hg] at h; cases h
  | some g =>
    rw [hg] at h
    rw [← h]
    simp only [Option.bind_some] at h ⊢
    have hlt : g < w.heap.size := by
      rcases Nat.lt_or_ge g w.heap.size with hl | hl
      · exact hl
      · simp [Array.getElem?_eq_none hl] at h
    simp [hb.block g hlt]
theorem tens_of {w : World} (h : Lib.TabIs Tryd.prog w "internal/strconv.uint64pow10" .u64 Lib.pow10Tab) : Tens w := fun n W hn hb =>
  (Tryd.strconv_Itoa n (by omega) (by omega) W (tab_below h hb)).mono fun e w' ⟨h1, k, os, h2⟩ => ⟨by rw [h1, Lib.itoa_nonneg]; rfl, h2 ▸ below_grow W k os⟩
theorem tab_of {d1 d2 : DataW Unit} {n1 n2 : String} {W : World} (hL : laidMet Tryd.prog [(n1, d1), (n2, d2), ("internal/strconv.uint64pow10", Lib.tabData .u64 Lib.pow10Tab)] W) : Lib.TabIs Tryd.prog W "internal/strconv.uint64pow10" .u64 Lib.pow10Tab :=
  Lib.tabIs_of_head (g := 0) (by kernel_rfl) (by kernel_rfl) Tryd.underlying86 Tryd.underlying79 (by kernel_rfl) (by kernel_rfl) hL.tail.tail
end Go.Proofs.YtgjijjdpkmdcgaaDoor
