/- A formula that came in as an argument reads as a tree. Condition: none but that it is read. -/
import Derived.Test.YtofbmlfpkcociaaDoorMs
import Derived.ProofKit
import Derived.ChangeArms
import Derived.Deep.Slices
import Derived.Lib.SmallJoins
import Derived.OpenShut
set_option linter.unusedVariables false
set_option linter.unusedSimpArgs false
namespace Go.Proofs.YtofbmlfpkcociaaDoor
open Go.ChangeShapes Go.WideShapes Go.RowKit Go.Joins

section
variable {H : Type} {enc : TypeId × Value → H} {w : World} {spare : Nat → Bool} {held : Bool}

instance : Inhabited Tr := ⟨.mk ⟨0, 0, 0, 0, ⟨#[]⟩, false, 0, 0, 0, false, false, 0, 0, false, false, 0, 0⟩ []⟩

set_option maxRecDepth 100000 in
theorem ref_cells {b0 m : Nat} {c0 c1 c2 c3 : Value} {x : DataW H × List MemPlace} (h : DataW.trod enc Tryd.prog w b0 spare held m 27 [c0, c1, c2, c3] = some x) :
    ∃ (r c : Int) (a b : Bool), c0 = .int .i64 r ∧ c1 = .int .i64 c ∧ c2 = .bool a ∧ c3 = .bool b := by
  obtain ⟨xs, n, rfl, -, -, hl, hf⟩ := DataW.trod_struct Tryd.underlying27 h
  match xs, hl with
  | [x0, x1, x2, x3], _ =>
    have g0 : DataW.trod enc Tryd.prog w b0 spare held n 3 [c0] = some x0 := hf 0 _ rfl
    have g1 : DataW.trod enc Tryd.prog w b0 spare held n 3 [c1] = some x1 := hf 1 _ rfl
    have g2 : DataW.trod enc Tryd.prog w b0 spare held n 4 [c2] = some x2 := hf 2 _ rfl
    have g3 : DataW.trod enc Tryd.prog w b0 spare held n 4 [c3] = some x3 := hf 3 _ rfl
    obtain ⟨r, e0, -, -⟩ := DataW.trod_int Tryd.underlying3 g0
    obtain ⟨c, e1, -, -⟩ := DataW.trod_int Tryd.underlying3 g1
    obtain ⟨a, e2, -⟩ := DataW.trod_bool Tryd.underlying4 g2
    obtain ⟨b, e3, -⟩ := DataW.trod_bool Tryd.underlying4 g3
    injection e0 with e0
    injection e1 with e1
    injection e2 with e2
    injection e3 with e3
    exact ⟨r, c, a, b, e0, e1, e2, e3⟩

set_option maxRecDepth 100000 in
theorem val_cells {b0 m : Nat} {c0 c1 c2 c3 c4 c5 : Value} {x : DataW H × List MemPlace} (h : DataW.trod enc Tryd.prog w b0 spare held m 25 [c0, c1, c2, c3, c4, c5] = some x) :
    ∃ (k n s : Int) (t : ByteArray) (b : Bool) (e : Int), c0 = .int .i64 k ∧ c1 = .int .i64 n ∧ c2 = .int .i64 s ∧ c3 = .string t ∧ c4 = .bool b ∧ c5 = .int .i64 e := by
  obtain ⟨xs, n, rfl, -, -, hl, hf⟩ := DataW.trod_struct Tryd.underlying25 h
  match xs, hl with
  | [x0, x1, x2, x3, x4], _ =>
    have g0 : DataW.trod enc Tryd.prog w b0 spare held n 3 [c0] = some x0 := hf 0 _ rfl
    have g1 : DataW.trod enc Tryd.prog w b0 spare held n 23 [c1, c2] = some x1 := hf 1 _ rfl
    have g2 : DataW.trod enc Tryd.prog w b0 spare held n 9 [c3] = some x2 := hf 2 _ rfl
    have g3 : DataW.trod enc Tryd.prog w b0 spare held n 4 [c4] = some x3 := hf 3 _ rfl
    have g4 : DataW.trod enc Tryd.prog w b0 spare held n 3 [c5] = some x4 := hf 4 _ rfl
    obtain ⟨ys, n', rfl, -, -, hl', hf'⟩ := DataW.trod_struct Tryd.underlying23 g1
    match ys, hl' with
    | [y0, y1], _ =>
      have k0 : DataW.trod enc Tryd.prog w b0 spare held n' 2 [c1] = some y0 := hf' 0 _ rfl
      have k1 : DataW.trod enc Tryd.prog w b0 spare held n' 3 [c2] = some y1 := hf' 1 _ rfl
      obtain ⟨k, e0, -, -⟩ := DataW.trod_int Tryd.underlying3 g0
      obtain ⟨m, e1, -, -⟩ := DataW.trod_int Tryd.underlying2 k0
      obtain ⟨s, e2, -, -⟩ := DataW.trod_int Tryd.underlying3 k1
      obtain ⟨t, e3, -, -⟩ := DataW.trod_string Tryd.underlying9 g2
      obtain ⟨b, e4, -⟩ := DataW.trod_bool Tryd.underlying4 g3
      obtain ⟨e, e5, -, -⟩ := DataW.trod_int Tryd.underlying3 g4
      injection e0 with e0
      injection e1 with e1
      injection e2 with e2
      injection e3 with e3
      injection e4 with e4
      injection e5 with e5
      exact ⟨k, m, s, t, b, e, e0, e1, e2, e3, e4, e5⟩

set_option maxRecDepth 100000 in
/-- The tree. -/
theorem tree_open : ∀ (fuel : Nat) {cs : List Value} {x : DataW H × List MemPlace}, cs.length = 18 → DataW.trod enc Tryd.prog w 0 spare held fuel 32 cs = some x → ∃ t, LiT w (· < w.heap.size) t cs := by
  have h18 : Tryd.prog.cellsOf 32 = 18 := by kernel_rfl
  intro fuel
  induction fuel using Nat.strongRecOn with
  | _ fuel ih =>
  intro cs x hlen h
  match cs, hlen with
  | [c0, c1, c2, c3, c4, c5, c6, c7, c8, c9, c10, c11, c12, c13, c14, c15, c16, c17], _ =>
    obtain ⟨xs, n, rfl, -, -, hl, hf⟩ := DataW.trod_struct Tryd.underlying32 h
    match xs, hl with
    | [x0, x1, x2, x3, x4, x5], _ =>
      have g0 : DataW.trod enc Tryd.prog w 0 spare held n 3 [c0] = some x0 := hf 0 _ rfl
      have g1 : DataW.trod enc Tryd.prog w 0 spare held n 25 [c1, c2, c3, c4, c5, c6] = some x1 := hf 1 _ rfl
      have g2 : DataW.trod enc Tryd.prog w 0 spare held n 29 [c7, c8, c9, c10, c11, c12, c13, c14] = some x2 := hf 2 _ rfl
      have g3 : DataW.trod enc Tryd.prog w 0 spare held n 3 [c15] = some x3 := hf 3 _ rfl
      have g4 : DataW.trod enc Tryd.prog w 0 spare held n 3 [c16] = some x4 := hf 4 _ rfl
      have g5 : DataW.trod enc Tryd.prog w 0 spare held n 30 [c17] = some x5 := hf 5 _ rfl
      clear hf h
      obtain ⟨k, e0, -, -⟩ := DataW.trod_int Tryd.underlying3 g0
      obtain ⟨vk, vm, vs, vt, vb, ve, rfl, rfl, rfl, rfl, rfl, rfl⟩ := val_cells g1
      obtain ⟨ys, n', rfl, -, -, hl', hf'⟩ := DataW.trod_struct Tryd.underlying29 g2
      match ys, hl' with
      | [y0, y1], _ =>
        have k0 : DataW.trod enc Tryd.prog w 0 spare held n' 27 [c7, c8, c9, c10] = some y0 := hf' 0 _ rfl
        have k1 : DataW.trod enc Tryd.prog w 0 spare held n' 27 [c11, c12, c13, c14] = some y1 := hf' 1 _ rfl
        obtain ⟨r1, q1, u1, v1, rfl, rfl, rfl, rfl⟩ := ref_cells k0
        obtain ⟨r2, q2, u2, v2, rfl, rfl, rfl, rfl⟩ := ref_cells k1
        obtain ⟨sh, e3, -, -⟩ := DataW.trod_int Tryd.underlying3 g3
        obtain ⟨op, e4, -, -⟩ := DataW.trod_int Tryd.underlying3 g4
        injection e0 with e0
        injection e3 with e3
        injection e4 with e4
        subst e0 e3 e4
        rcases DataW.trod_slice Tryd.underlying30 g5 with ⟨hcs, -⟩ | ⟨a, len, cap, elems, rest, n2, hn2, hcs, -, -, hlc, -, hel, hall, -, -⟩
        · injection hcs with hcs
          subst hcs
          exact ⟨.mk ⟨k, vk, vm, vs, vt, vb, ve, r1, q1, u1, v1, r2, q2, u2, v2, sh, op⟩ [], tree_mk.2 ⟨none, 0, rfl, Nat.le_refl _, RowF.nil _ _ _ _⟩⟩
        · injection hcs with hcs
          subst hcs
          rw [h18] at hall
          have hkey : ∀ i, i < len → ∃ t, ∃ cs', LiT w (· < w.heap.size) t cs' ∧ cs'.length = 18 ∧ ∀ j u, cs'[j]? = some u → w.cell? (a.add (i * 18 + j)) = some u := fun i hi => by
            have h1 := hall i hi
            rw [List.getElem?_eq_getElem (by omega)] at h1
            obtain ⟨cs', q1, q2⟩ := Option.bind_eq_some_iff.1 h1
            obtain ⟨_, hl2, hcell⟩ := World.cells?_some q1
            obtain ⟨t, ht⟩ := ih n2 (by omega) hl2 q2
            refine ⟨t, cs', ht, hl2, fun j u hu => ?_⟩
            have hj : j < 18 := by rw [← hl2]; exact (List.getElem?_eq_some_iff.1 hu).1
            have := hcell j hj
            rw [add_add, hu] at this
            exact this
          obtain ⟨R, hR⟩ := Go.Deep.choose_lt (α := Tr) hkey
          refine ⟨.mk ⟨k, vk, vm, vs, vt, vb, ve, r1, q1, u1, v1, r2, q2, u2, v2, sh, op⟩ ((List.range len).map R), tree_mk.2 ⟨some a, cap, by simp [ec, pc], by simpa using hlc, ⟨by simp, fun hn => ⟨a, rfl, ?_, fun i t hi => ?_⟩⟩⟩⟩
          · obtain ⟨cs', h1, h2, h3⟩ := hR 0 (by simpa using hn)
            obtain ⟨u, hu⟩ : ∃ u, cs'[0]? = some u := ⟨_, List.getElem?_eq_getElem (by omega)⟩
            have := World.block_lt_of_cell? w _ (h3 0 u hu)
            rwa [add_block] at this
          · rw [List.getElem?_map] at hi
            obtain ⟨j, hj, rfl⟩ := Option.map_eq_some_iff.1 hi
            have hlt : i < len := by simpa using (List.getElem?_eq_some_iff.1 hj).1
            rw [List.getElem?_range hlt] at hj
            injection hj with hj
            subst hj
            obtain ⟨cs', h1, h2, h3⟩ := hR i hlt
            exact ⟨cs', h1, h3⟩
end
end Go.Proofs.YtofbmlfpkcociaaDoor
