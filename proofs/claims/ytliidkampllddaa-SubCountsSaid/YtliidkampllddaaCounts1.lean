/- SubCounts' memory: the streams as they are made, the records as they are placed, and parted around one. No condition but that they lie so. -/
import Derived.Test.YtliidkampllddaaCounts0
import Derived.Test.YtliidkampllddaaKnown2
namespace Go.Proofs.Ytliidkampllddaa
open Go.RowKit

theorem streamElem : ElemRow Try.prog 25 41 (.agg #[.int .i64 0, .slice none 0 0]) 2 32 := by
  obtain ⟨i, hi, h0, h1, h2⟩ := info_parts (P := Try.prog) (e := 41) (z := .agg #[.int .i64 0, .slice none 0 0]) (size := 2) (bytes := 32) (by kernel_rfl)
  exact ⟨Try.underlying25, ⟨i, hi, h0, h1, h2⟩, rfl, by omega⟩

theorem made_streams : ∀ k, k < 12 → madeCells (Value.agg #[.int .i64 0, .slice none 0 0]).cells (k * 2) = (kcf k 0).toArray
  | 0, _ => by kernel_rfl | 1, _ => by kernel_rfl | 2, _ => by kernel_rfl | 3, _ => by kernel_rfl | 4, _ => by kernel_rfl | 5, _ => by kernel_rfl | 6, _ => by kernel_rfl | 7, _ => by kernel_rfl | 8, _ => by kernel_rfl | 9, _ => by kernel_rfl | 10, _ => by kernel_rfl | 11, _ => by kernel_rfl
  | k + 12, h => absurd h (by omega)

theorem run_make_streams (k : Nat) (hk : k < 12) (W : World) : (Instr.makeSlice 25 (.int .i64 (k : Int)) (.int .i64 (k : Int))).run Try.prog W = .ok (.slice (some ⟨W.heap.size, 0, none⟩) k k) (W.alloc (.cells (kcf k 0).toArray 41)) := by
  obtain ⟨i, hi, h0, h1, h2⟩ := streamElem.info
  have h := run_make (P := Try.prog) W 25 41 i _ streamElem.under hi h0 .i64 .i64 k k (by omega) (by omega) (by rw [h2]; omega) (by omega)
  rw [h, h1, Int.toNat_natCast, made_streams k hk]

theorem streams_laid {w : World} {g k : Nat} (hk : k < 12) (h : Bk w g 41 (kcf k k).toArray) : RowF streamForm w (· < w.heap.size) (some ⟨g, 0, none⟩) k (scS k) := by
  have hl : (kcf k k).length = k * 2 := by simp [kcf]
  refine RowF.flat (S := (List.range k).map fun (i : Nat) => (([.int .i64 (i : Int), .slice none 0 0] : List Value), (⟨(i : Int), []⟩ : StreamM))) (by simp [scS]) ?_ ?_ (by simp [scS])
  · intro p hp
    obtain ⟨i, _, rfl⟩ := List.mem_map.1 hp
    exact ⟨none, 0, rfl, Nat.le_refl _, RowF.nil _ _ _ _⟩
  · rw [kcf_flat k hk]
    refine ⟨hl, fun _ => ⟨_, rfl, h.lt, fun j u hu => ?_⟩⟩
    rw [addr_zero, h.cell]
    simpa using hu

/-- One record's place is set. -/
theorem OwnF.place {w : World} {base g n cap i : Nat} {e : TypeId} {L : List RecM} {r : RecM} {u : Int} (h : OwnF recForm w (But w (Mine (.slice (some ⟨g, 0, none⟩) n cap))) base e (.slice (some ⟨g, 0, none⟩) n cap) L) (hn : L.length = n) (hr : L[i]? = some r) :
    OwnF recForm (w.setCell ⟨g, i * 4 + 3, none⟩ (.int .i64 u)) (But (w.setCell ⟨g, i * 4 + 3, none⟩ (.int .i64 u)) (Mine (.slice (some ⟨g, 0, none⟩) n cap))) base e (.slice (some ⟨g, 0, none⟩) n cap) (L.set i { r with at_ := u }) ∧
      w.frozen? ⟨g, i * 4 + 3, none⟩ = false ∧ w.cell? ⟨g, i * 4 + 3, none⟩ = some (.int .i64 r.at_) := by
  obtain ⟨S, h1, h2, ho⟩ := h.ex
  rw [← h1, List.getElem?_map, Option.map_eq_some_iff] at hr
  obtain ⟨p, hp, rfl⟩ := hr
  have hlen : ∀ q ∈ S, q.1.length = 4 := fun q hq => recForm.len (h2 q hq)
  have hpR := h2 p (List.mem_of_getElem? hp)
  obtain ⟨D, dc, C, cc, e1, e2, e3, e4, e5, e6⟩ := hpR
  have hc : (S.flatMap (·.1))[i * 4 + 3]? = some (.int .i64 p.2.at_) := flat_get hlen hp (by rw [e1]; rfl)
  have ho' : w.ownsRow base e 4 (.slice (some ⟨g, 0, none⟩) n cap) n (S.flatMap (·.1)) := by rw [← hn]; rw [← hn] at ho; exact ho
  have hst := (ho'.stored (i * 4 + 3) (.int .i64 u)).1
  rw [flat_set hlen hp (.int .i64 u) { p.2 with at_ := u } (by omega)] at hst
  have hmv : Move w (But w (Mine (.slice (some ⟨g, 0, none⟩) n cap))) (w.setCell ⟨g, i * 4 + 3, none⟩ (.int .i64 u)) (But (w.setCell ⟨g, i * 4 + 3, none⟩ (.int .i64 u)) (Mine (.slice (some ⟨g, 0, none⟩) n cap))) := by
    refine But.move (T := fun q => q = g) (((Keep.refl (fun q => q = g) w)).setCell (p := ⟨g, i * 4 + 3, none⟩) (fun _ => rfl) _) (fun q _ hq => ?_) fun q _ hq => hq
    subst hq
    rfl
  refine ⟨⟨S.set i (p.1.set 3 (.int .i64 u), { p.2 with at_ := u }), ?_, ?_, ?_⟩, ho'.frozenAt _, ?_⟩
  · rw [← h1, List.map_set]
  · intro q hq
    rcases List.mem_or_eq_of_mem_set hq with hq | rfl
    · exact recForm.move hmv (h2 q hq)
    · refine recForm.move hmv ⟨D, dc, C, cc, ?_, e2, e3, e4, e5, e6⟩
      rw [e1]
      rfl
  · rw [List.length_set, hn]
    exact hst
  · have := ho'.cells (g := g) rfl _ _ hc
    rwa [addr_zero] at this

/-- A row of records around one: what is ahead of it, what is behind it. -/
theorem OwnF.around {w : World} {F : Nat → Prop} {base : Nat} {e : TypeId} {v : Value} {L : List RecM} (h : OwnF recForm w F base e v L) (hF : ∀ i, F i → i < w.heap.size) (i : Nat) (hi : i < L.length) :
    ∃ (a : Addr) (c : Nat) (S : List (List Value × RecM)), v = .slice (some a) L.length c ∧ L.length ≤ c ∧ S.map (·.2) = L ∧ (∀ p ∈ S, recForm.R w F p.1 p.2) ∧ Rd w w.heap.size 4 (some a) i ((S.take i).flatMap (·.1)) ∧
      Rd w w.heap.size 4 (if c = i + 1 then some a else some (a.add ((i + 1) * 4))) (L.length - (i + 1)) ((S.drop (i + 1)).flatMap (·.1)) := by
  obtain ⟨S, h1, h2, ho⟩ := h.ex
  have hlen : ∀ q ∈ S, q.1.length = 4 := fun q hq => recForm.len (h2 q hq)
  obtain ⟨A, c, rfl, hc, -, hr⟩ := own_form ho
  obtain ⟨a, rfl, hb, hcell⟩ := hr.at_ (by omega)
  have c1 := hr.cut (i := 0) (j := i) (cap := c) (by omega) (by omega) hc
  have c2 := hr.cut (i := i + 1) (j := L.length) (cap := c) (by omega) (Nat.le_refl _) hc
  refine ⟨a, c, S, rfl, hc, h1, h2, ?_, ?_⟩
  · rw [if_neg (by omega)] at c1
    rw [← flat_take hlen]
    simpa [Addr.add, show recForm.k = 4 from rfl] using c1
  · have hl : (S.flatMap (·.1)).length = L.length * 4 := by rw [flat_len hlen, ← h1, List.length_map]
    rw [← flat_drop hlen]
    have ht : (List.drop ((i + 1) * recForm.k) (List.flatMap (·.1) S)).take ((L.length - (i + 1)) * recForm.k) = List.drop ((i + 1) * 4) (List.flatMap (·.1) S) := by
      rw [show recForm.k = 4 from rfl]
      exact List.take_of_length_le (by rw [List.length_drop, hl]; omega)
    rw [ht] at c2
    by_cases hci : c = i + 1
    · rw [if_pos hci] at c2 ⊢; exact c2
    · rw [if_neg hci] at c2 ⊢; exact c2
end Go.Proofs.Ytliidkampllddaa
