/- A row of formulas that came in as an argument reads as a row of trees. Condition: none but that it is read. -/
import Derived.Test.YtofbmlfpkcociaaDoorTo1
set_option linter.unusedVariables false
set_option linter.unusedSimpArgs false
namespace Go.Proofs.YtofbmlfpkcociaaDoor
open Go.ChangeShapes Go.WideShapes Go.RowKit Go.Joins

set_option maxRecDepth 100000 in
theorem row_open {H : Type} {enc : TypeId × Value → H} {w : World} {spare : Nat → Bool} {held : Bool} {fuel : Nat} {A : Option Addr} {len cap : Nat} {x : DataW H × List MemPlace} (h : DataW.trod enc Tryd.prog w 0 spare held fuel 30 [.slice A len cap] = some x) :
    ∃ ts : List Tr, len = ts.length ∧ len ≤ cap ∧ cap ≤ maxLen ∧ RowF treeF w (· < w.heap.size) A len ts := by
  have h18 : Tryd.prog.cellsOf 32 = 18 := by kernel_rfl
  rcases DataW.trod_slice Tryd.underlying30 h with ⟨hcs, -⟩ | ⟨a, len', cap', elems, rest, n2, hn2, hcs, -, -, hlc, hm, hel, hall, -, -⟩
  · injection hcs with hcs
    injection hcs with h1 h2 h3
    subst h1 h2 h3
    exact ⟨[], rfl, Nat.le_refl _, by simp [maxLen], RowF.nil _ _ _ _⟩
  · injection hcs with hcs
    injection hcs with h1 h2 h3
    subst h1 h2 h3
    rw [h18] at hall
    have hkey : ∀ i, i < len → ∃ t, ∃ cs', LiT w (· < w.heap.size) t cs' ∧ cs'.length = 18 ∧ ∀ j u, cs'[j]? = some u → w.cell? (a.add (i * 18 + j)) = some u := fun i hi => by
      have h1 := hall i hi
      rw [List.getElem?_eq_getElem (by omega)] at h1
      obtain ⟨cs', q1, q2⟩ := Option.bind_eq_some_iff.1 h1
      obtain ⟨_, hl2, hcell⟩ := World.cells?_some q1
      obtain ⟨t, ht⟩ := tree_open n2 hl2 q2
      refine ⟨t, cs', ht, hl2, fun j u hu => ?_⟩
      have hj : j < 18 := by rw [← hl2]; exact (List.getElem?_eq_some_iff.1 hu).1
      have := hcell j hj
      rw [add_add, hu] at this
      exact this
    obtain ⟨R, hR⟩ := Go.Deep.choose_lt (α := Tr) hkey
    refine ⟨(List.range len).map R, by simp, hlc, hm, ⟨by simp, fun hn => ⟨a, rfl, ?_, fun i t hi => ?_⟩⟩⟩
    · obtain ⟨cs', h1, h2, h3⟩ := hR 0 hn
      obtain ⟨u, hu⟩ : ∃ u, cs'[0]? = some u := ⟨_, List.getElem?_eq_getElem (by omega)⟩
      have := World.block_lt_of_cell? w _ (h3 0 u hu)
      rwa [add_block] at this
    · rw [List.getElem?_map] at hi
      obtain ⟨j, hj, rfl⟩ := Option.map_eq_some_iff.1 hi
      have hlt : i < len := by simpa using (List.getElem?_eq_some_iff.1 hj).1
      rw [List.getElem?_range hlt] at hj
      injection hj with hj
      subst hj
      obtain ⟨cs', h1, h2, h3⟩ := hR i hlt
      exact ⟨cs', h1, h3⟩
end Go.Proofs.YtofbmlfpkcociaaDoor
