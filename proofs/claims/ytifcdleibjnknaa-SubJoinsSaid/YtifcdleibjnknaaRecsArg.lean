/- A row of records that came in as an argument reads as a list of records. Condition: what is read is within the form's own reach. -/
import Derived.Test.YtifcdleibjnknaaToAll
import Derived.ProofKit
import Derived.ChangeArms
import Derived.ChangeSlices
import Derived.Deep.Slices
import Derived.SizedLaws
namespace Go.Proofs.Ytifcdleibjnknaa
open Go.RowKit

section
variable {H : Type} {enc : TypeId × Value → H} {w : World} {spare : Nat → Bool} {held : Bool}

theorem rd_ints {P : Program} {e : TypeId} {k : IntKind} {t : TypeId} {fuel : Nat} {v : Value} {x : DataW H × List MemPlace} (ht : P.underlying t = some (.slice e)) (he : P.underlying e = some (.int k)) (hc : P.cellsOf e = 1)
    (h : DataW.trod enc P w 0 (fun _ => true) held fuel t [v] = some x) (hs : (x.1.weights P t).all (· ≤ reachBytes) = true) :
    ∃ (A : Option Addr) (n c : Nat) (zs : List Int), v = .slice A n c ∧ n ≤ c ∧ zs.length = n ∧ Rd w w.heap.size 1 A n (zs.map (Value.int k)) ∧ (∀ z ∈ zs, (Lit.int k z).wf = true) ∧ n * P.bytesOf e ≤ reachBytes := by
  rcases Go.ChangeShapes.open_ints (k := k) ht he hc h with ⟨hcs, _⟩ | ⟨a, len, cap, zs, hcs, _, hl, hm, hz, rfl, hcell, hw⟩
  · simp at hcs
    subst hcs
    exact ⟨none, 0, 0, [], rfl, Nat.le_refl _, rfl, Rd.nil _ _ _ _, by simp, by simp⟩
  · simp at hcs hz
    subst hcs
    have hcl : ∀ i, i < len → w.cell? (a.add i) = some (.int k (zs.getD i 0)) := fun i hi => hcell i (by omega)
    refine ⟨some a, len, cap, zs.take len, rfl, hl, by rw [List.length_take]; omega, ⟨by simp; omega, fun hn => ⟨a, rfl, ?_, fun j u hu => ?_⟩⟩, fun z hz' => hw z (List.mem_of_mem_take hz'), ?_⟩
    · have := World.block_lt_of_cell? w _ (hcl 0 hn)
      rwa [add_block] at this
    · rw [List.getElem?_map, List.getElem?_take] at hu
      split at hu
      · rename_i hj
        rw [hcl j hj]
        rw [List.getElem?_eq_getElem (by omega)] at hu
        simp only [Option.map_some, Option.some.injEq] at hu
        subst hu
        simp [List.getD, List.getElem?_eq_getElem (show j < zs.length by omega)]
      · simp at hu
    · have h0 := List.all_eq_true.1 hs ((zs.take len).length * P.bytesOf e + (zs.drop len).length * P.bytesOf e) (by
        simp [DataW.weights, ht, Go.ChangeShapes.lits, Nat.add_mul])
      simp only [decide_eq_true_eq, List.length_take] at h0
      rw [Nat.min_eq_left (by omega)] at h0
      omega

theorem wf_byte {z : Int} (h : (Lit.int .u8 z).wf = true) : Value.int .u8 z = bv (UInt8.ofNat z.toNat) := by
  obtain ⟨b0, b1⟩ : 0 ≤ z ∧ z ≤ 255 := by simpa [Lit.wf, IntKind.min, IntKind.max, IntKind.signed, IntKind.bits] using h
  unfold bv
  rw [UInt8.toNat_ofNat', Nat.mod_eq_of_lt (by omega)]
  congr 1
  omega

theorem bytes_of {zs : List Int} (h : ∀ z ∈ zs, (Lit.int .u8 z).wf = true) : zs.map (Value.int .u8) = (zs.map fun z => UInt8.ofNat z.toNat).map bv := by
  rw [List.map_map]
  exact List.map_congr_left fun z hz => wf_byte (h z hz)

theorem weights_all {P : Program} {e : TypeId} : ∀ {l : List (DataW H)} {d : DataW H}, d ∈ l → ∀ n ∈ d.weights P e, n ∈ DataW.weightsAll P e l
  | x :: l, d, hd, n, hn => by
    simp only [DataW.weightsAll, List.mem_append]
    rcases List.mem_cons.1 hd with rfl | hd
    · exact .inl hn
    · exact .inr (weights_all hd n hn)

instance : Inhabited RecM := ⟨⟨0, [], [], 0⟩⟩

/-- One record's four cells. -/
theorem rec_open {fuel : Nat} {p : Addr} {cs : List Value} {x : DataW H × List MemPlace} (hcs : w.cells? 0 p 4 = some cs) (h : DataW.trod enc Try.prog w 0 (fun _ => true) held fuel 52 cs = some x)
    (hs : (x.1.weights Try.prog 52).all (· ≤ reachBytes) = true) : ∃ r D dc C cc, RecAt w w.heap.size p r D dc C cc ∧ Wide r := by
  obtain ⟨_, hlen, hcell⟩ := World.cells?_some hcs
  match cs, hlen with
  | [v0, v1, v2, v3], _ =>
    obtain ⟨xs, m, rfl, rfl, _, hxl, hf⟩ := DataW.trod_struct Try.underlying52 h
    match xs, hxl with
    | [x0, x1, x2, x3], _ =>
      have h3 : Try.prog.cellsOf 3 = 1 := by kernel_rfl
      have h24 : Try.prog.cellsOf 46 = 1 := by kernel_rfl
      have h25 : Try.prog.cellsOf 47 = 1 := by kernel_rfl
      have h5 : Try.prog.cellsOf 5 = 1 := by kernel_rfl
      have y3 : Try.prog.bytesOf 3 = 8 := by kernel_rfl
      have y5 : Try.prog.bytesOf 5 = 1 := by kernel_rfl
      have g0 : DataW.trod enc Try.prog w 0 (fun _ => true) held m 3 ((([v0, v1, v2, v3] : List Value).drop 0).take (Try.prog.cellsOf 3)) = some x0 := hf 0 _ rfl
      have g1 : DataW.trod enc Try.prog w 0 (fun _ => true) held m 46 ((([v0, v1, v2, v3] : List Value).drop 1).take (Try.prog.cellsOf 46)) = some x1 := hf 1 _ rfl
      have g2 : DataW.trod enc Try.prog w 0 (fun _ => true) held m 47 ((([v0, v1, v2, v3] : List Value).drop 2).take (Try.prog.cellsOf 47)) = some x2 := hf 2 _ rfl
      have g3 : DataW.trod enc Try.prog w 0 (fun _ => true) held m 3 ((([v0, v1, v2, v3] : List Value).drop 3).take (Try.prog.cellsOf 3)) = some x3 := hf 3 _ rfl
      clear hf
      rw [h3] at g0 g3
      rw [h24] at g1
      rw [h25] at g2
      obtain ⟨t, e0, -, w0⟩ := DataW.trod_int Try.underlying3 g0
      obtain ⟨a, e3, -, w3⟩ := DataW.trod_int Try.underlying3 g3
      simp only [List.drop_zero, List.take_succ_cons, List.take_zero, List.cons.injEq, and_true, List.drop_succ_cons] at e0 e3 g1 g2
      subst e0 e3
      have hall := List.all_eq_true.1 hs
      have s1 : (x1.1.weights Try.prog 46).all (· ≤ reachBytes) = true := List.all_eq_true.2 fun n hn => hall n (by simp [DataW.weights, Try.underlying52, DataW.weightsEach, hn])
      have s2 : (x2.1.weights Try.prog 47).all (· ≤ reachBytes) = true := List.all_eq_true.2 fun n hn => hall n (by simp [DataW.weights, Try.underlying52, DataW.weightsEach, hn])
      obtain ⟨D, dn, dc, ds, rfl, d1, d2, d3, d4, d5⟩ := rd_ints Try.underlying46 Try.underlying5 h5 g1 s1
      obtain ⟨C, cn, cc, zs, rfl, c1, c2, c3, c4, c5⟩ := rd_ints Try.underlying47 Try.underlying3 h3 g2 s2
      have f0 : -9223372036854775808 ≤ t ∧ t ≤ 9223372036854775807 := by simpa [Lit.wf, IntKind.min, IntKind.max, IntKind.signed, IntKind.bits] using w0
      rw [bytes_of d4] at d3
      rw [y5] at d5
      rw [y3] at c5
      have hr : reachBytes = 140737488351232 := rfl
      have k0 := hcell 0 (by omega)
      have k1 := hcell 1 (by omega)
      have k2 := hcell 2 (by omega)
      have k3 := hcell 3 (by omega)
      have hp0 : p.add 0 = p := by simp [Addr.add]
      have hp1 : p.add 1 = ⟨p.block, p.off + 1, none⟩ := by simp [Addr.add]
      have hp2 : p.add 2 = ⟨p.block, p.off + 2, none⟩ := by simp [Addr.add]
      have hp3 : p.add 3 = ⟨p.block, p.off + 3, none⟩ := by simp [Addr.add]
      rw [hp0] at k0
      rw [hp1] at k1
      rw [hp2] at k2
      rw [hp3] at k3
      refine ⟨⟨t, ds.map fun z => UInt8.ofNat z.toNat, zs, a⟩, D, dc, C, cc, ⟨⟨?_, ?_, ⟨?_, ?_⟩, ⟨?_, ?_⟩, f0⟩, World.block_lt_of_cell? w _ k0, k0, ?_, ?_, k3⟩, ?_, ?_⟩
      · simp only [List.length_map, d2]; exact d3
      · simp only [c2]; exact c3
      · simp only [List.length_map, d2]; exact d1
      · simp only [List.length_map]; omega
      · simp only [c2]; exact c1
      · simp only [c2]; omega
      · simp only [List.length_map, d2]; exact k1
      · simp only [c2]; exact k2
      · simp only [List.length_map]; omega
      · simp only [c2]; omega

/-- The row. -/
theorem recs_open {fuel : Nat} {v : Value} {x : DataW H × List MemPlace} (h : DataW.trod enc Try.prog w 0 (fun _ => true) held fuel 22 [v] = some x)
    (hs : (x.1.weights Try.prog 22).all (· ≤ reachBytes) = true) : ∃ A n c L, v = .slice A n c ∧ n ≤ c ∧ RecsRd w w.heap.size A n L ∧ (∀ r ∈ L, Wide r) ∧ n ≤ 1000000000000000000 := by
  have h4 : Try.prog.cellsOf 52 = 4 := by kernel_rfl
  have y4 : Try.prog.bytesOf 52 = 64 := by kernel_rfl
  rcases Go.Deep.open_slice Try.underlying22 h with ⟨hcs, _⟩ | ⟨a, len, cap, m, n, D, Pl, hcs, _, hl, _, hm, rfl, hall⟩
  · simp at hcs
    subst hcs
    exact ⟨none, 0, 0, [], rfl, Nat.le_refl _, ⟨rfl, fun h => absurd h (by omega)⟩, by simp, by omega⟩
  · simp at hcs hm
    subst hcs hm
    have hw := List.all_eq_true.1 hs
    have hr : reachBytes = 140737488351232 := rfl
    have hwd : ∀ i, i < len → ((D i).weights Try.prog 52).all (· ≤ reachBytes) = true := fun i hi => List.all_eq_true.2 fun q hq => hw q (by
      simp only [DataW.weights, Try.underlying22, List.mem_cons, List.mem_append]
      exact .inr (.inl (weights_all (List.mem_map_of_mem (List.mem_range.2 hi)) q hq)))
    have hlen := hw (((List.range len).map D).length * 64 + ((List.range (m - len)).map fun j => D (len + j)).length * 64) (by simp [DataW.weights, Try.underlying22, y4, Nat.add_mul])
    simp only [decide_eq_true_eq, List.length_map, List.length_range] at hlen
    obtain ⟨R, hR⟩ := Go.Deep.choose_lt (α := RecM) (n := len) (p := fun i r => ∃ D dc C cc, RecAt w w.heap.size (a.add (i * 4)) r D dc C cc ∧ Wide r) fun i hi => by
      obtain ⟨cs', q1, q2⟩ := hall i (by omega)
      rw [h4] at q1
      obtain ⟨r, D', dc, C, cc, q3, q4⟩ := rec_open q1 q2 (hwd i hi)
      exact ⟨r, D', dc, C, cc, q3, q4⟩
    refine ⟨some a, len, m, (List.range len).map R, rfl, hl, ⟨by simp, fun hn => ⟨a, rfl, ?_, fun i r hi => ?_⟩⟩, fun r hr' => ?_, by omega⟩
    · obtain ⟨D', dc, C, cc, q3, _⟩ := hR 0 hn
      have := q3.low
      rwa [add_block] at this
    · rw [List.getElem?_map] at hi
      by_cases hil : i < len
      · rw [List.getElem?_range hil] at hi
        simp at hi
        subst hi
        obtain ⟨D', dc, C, cc, q3, _⟩ := hR i hil
        exact ⟨D', dc, C, cc, q3⟩
      · rw [List.getElem?_eq_none (by simpa using hil)] at hi
        cases hi
    · obtain ⟨i, hi, rfl⟩ := List.mem_map.1 hr'
      obtain ⟨_, _, _, _, _, q4⟩ := hR i (List.mem_range.1 hi)
      exact q4
end
end Go.Proofs.Ytifcdleibjnknaa
