/- A row of substreams that came in as an argument reads as a list of substreams. Condition: what is read is within the form's own reach. -/
import Derived.Test.YtifcdleibjnknaaRecsArg
import Derived.Test.YtifcdleibjnknaaForm
namespace Go.Proofs.Ytifcdleibjnknaa
open Go.RowKit

section
variable {H : Type} {enc : TypeId × Value → H} {w : World} {held : Bool}

theorem stream_open {fuel : Nat} {p : Addr} {cs : List Value} {x : DataW H × List MemPlace} (hcs : w.cells? 0 p 2 = some cs) (h : DataW.trod enc Try.prog w 0 (fun _ => true) held fuel 39 cs = some x)
    (hs : (x.1.weights Try.prog 39).all (· ≤ reachBytes) = true) : ∃ (s : StreamM) (A : Option Addr) (c : Nat), w.cell? p = some (.int .i64 s.kind) ∧ w.cell? ⟨p.block, p.off + 1, none⟩ = some (.slice A s.recs.length c) ∧ s.recs.length ≤ c ∧
      RecsRd w w.heap.size A s.recs.length s.recs ∧ (∀ r ∈ s.recs, Wide r) ∧ s.recs.length ≤ 1000000000000000000 := by
  obtain ⟨_, hlen, hcell⟩ := World.cells?_some hcs
  match cs, hlen with
  | [v0, v1], _ =>
    obtain ⟨xs, m, rfl, rfl, _, hxl, hf⟩ := DataW.trod_struct Try.underlying39 h
    match xs, hxl with
    | [x0, x1], _ =>
      have h3 : Try.prog.cellsOf 3 = 1 := by kernel_rfl
      have h22 : Try.prog.cellsOf 22 = 1 := by kernel_rfl
      have g0 : DataW.trod enc Try.prog w 0 (fun _ => true) held m 3 ((([v0, v1] : List Value).drop 0).take (Try.prog.cellsOf 3)) = some x0 := hf 0 _ rfl
      have g1 : DataW.trod enc Try.prog w 0 (fun _ => true) held m 22 ((([v0, v1] : List Value).drop 1).take (Try.prog.cellsOf 22)) = some x1 := hf 1 _ rfl
      clear hf
      rw [h3] at g0
      rw [h22] at g1
      obtain ⟨t, e0, -, w0⟩ := DataW.trod_int Try.underlying3 g0
      simp only [List.drop_zero, List.take_succ_cons, List.take_zero, List.cons.injEq, and_true, List.drop_succ_cons] at e0 g1
      subst e0
      have hall := List.all_eq_true.1 hs
      have s1 : (x1.1.weights Try.prog 22).all (· ≤ reachBytes) = true := List.all_eq_true.2 fun n hn => hall n (by simp [DataW.weights, Try.underlying39, DataW.weightsEach, hn])
      obtain ⟨A, n, c, L, rfl, hc, hr, hw, hn⟩ := recs_open g1 s1
      have k0 := hcell 0 (by omega)
      have k1 := hcell 1 (by omega)
      have hp0 : p.add 0 = p := by simp [Addr.add]
      have hp1 : p.add 1 = ⟨p.block, p.off + 1, none⟩ := by simp [Addr.add]
      rw [hp0] at k0
      rw [hp1] at k1
      have hl := hr.len
      subst hl
      exact ⟨⟨t, L⟩, A, c, k0, k1, hc, hr, hw, hn⟩

instance : Inhabited StreamM := ⟨⟨0, []⟩⟩

theorem streams_open {fuel : Nat} {v : Value} {x : DataW H × List MemPlace} (h : DataW.trod enc Try.prog w 0 (fun _ => true) held fuel 31 [v] = some x)
    (hs : (x.1.weights Try.prog 31).all (· ≤ reachBytes) = true) : ∃ A n c L, v = .slice A n c ∧ n ≤ c ∧ RowF streamForm w (· < w.heap.size) A n L ∧ (∀ s ∈ L, (∀ r ∈ s.recs, Wide r) ∧ s.recs.length ≤ 1000000000000000000) := by
  have h2 : Try.prog.cellsOf 39 = 2 := by kernel_rfl
  rcases Go.Deep.open_slice Try.underlying31 h with ⟨hcs, _⟩ | ⟨a, len, cap, m, n, D, Pl, hcs, _, hl, _, hm, rfl, hall⟩
  · simp at hcs
    subst hcs
    exact ⟨none, 0, 0, [], rfl, Nat.le_refl _, RowF.nil _ _ _ _, by simp⟩
  · simp at hcs hm
    subst hcs hm
    have hw := List.all_eq_true.1 hs
    have hwd : ∀ i, i < len → ((D i).weights Try.prog 39).all (· ≤ reachBytes) = true := fun i hi => List.all_eq_true.2 fun q hq => hw q (by
      simp only [DataW.weights, Try.underlying31, List.mem_cons, List.mem_append]
      exact .inr (.inl (weights_all (List.mem_map_of_mem (List.mem_range.2 hi)) q hq)))
    obtain ⟨R, hR⟩ := Go.Deep.choose_lt (α := StreamM) (n := len) (p := fun i s => ∃ (A : Option Addr) (c : Nat), w.cell? (a.add (i * 2)) = some (.int .i64 s.kind) ∧ w.cell? ⟨(a.add (i * 2)).block, (a.add (i * 2)).off + 1, none⟩ = some (.slice A s.recs.length c) ∧ s.recs.length ≤ c ∧
      RecsRd w w.heap.size A s.recs.length s.recs ∧ (∀ r ∈ s.recs, Wide r) ∧ s.recs.length ≤ 1000000000000000000) fun i hi => by
      obtain ⟨cs', q1, q2⟩ := hall i (by omega)
      rw [h2] at q1
      exact stream_open q1 q2 (hwd i hi)
    refine ⟨some a, len, m, (List.range len).map R, rfl, hl, ⟨by simp, fun hn => ⟨a, rfl, ?_, fun i s hi => ?_⟩⟩, fun s hs' => ?_⟩
    · obtain ⟨A', c', k0, _⟩ := hR 0 hn
      have := World.block_lt_of_cell? w _ k0
      rwa [add_block] at this
    · rw [List.getElem?_map] at hi
      by_cases hil : i < len
      · rw [List.getElem?_range hil] at hi
        simp at hi
        subst hi
        obtain ⟨A', c', k0, k1, hc, hr, _⟩ := hR i hil
        refine ⟨_, ⟨A', c', rfl, hc, hr.rowF⟩, fun j u hu => ?_⟩
        rw [show streamForm.k = 2 from rfl, ← add_add]
        match j, hu with
        | 0, hu => simp at hu; subst hu; exact k0
        | 1, hu => simp at hu; subst hu; exact k1
        | j + 2, hu => simp at hu
      · rw [List.getElem?_eq_none (by simpa using hil)] at hi
        cases hi
    · obtain ⟨i, hi, rfl⟩ := List.mem_map.1 hs'
      obtain ⟨_, _, _, _, _, _, q1, q2⟩ := hR i (List.mem_range.1 hi)
      exact ⟨q1, q2⟩
end
end Go.Proofs.Ytifcdleibjnknaa
