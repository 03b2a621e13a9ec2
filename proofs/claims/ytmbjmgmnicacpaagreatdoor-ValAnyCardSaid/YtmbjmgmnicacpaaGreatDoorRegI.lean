/- Regions that draw their order, of numbers in digits: what stays between their operations; a number stored into a box that was just made. No condition. -/
import Derived.Test.YtmbjmgmnicacpaaGreatDoorRow9
import Derived.Test.YtmbjmgmnicacpaaGreatDoorWide
import Derived.Test.YtmbjmgmnicacpaaGreatDoorApp0
import Derived.Test.YtmbjmgmnicacpaaGreatDoorLit
import Derived.Test.YtmbjmgmnicacpaaGreatDoorD2
namespace Go.Proofs.YtmbjmgmnicacpaaGreatDoor
open Go.RowKit

/-- Rows of ints stay, as do cells that hold an int. -/
structure EI (w w' : World) : Prop where
  size : w.heap.size ≤ w'.heap.size
  row : ∀ (i : Nat) (cs : Array Value) (fz : Nat × Nat), w.heap[i]? = some (Obj.cells cs 3 fz) → w'.heap[i]? = some (Obj.cells cs 3 fz)
  cell : ∀ (p : Addr) (d : Int), w.cell? p = some (.int .i64 d) → w'.cell? p = some (.int .i64 d)
theorem EI.refl (w : World) : EI w w := ⟨Nat.le_refl _, fun _ _ _ h => h, fun _ _ h => h⟩
theorem EI.of_below {w w' : World} (hb : Below w.heap.size w w') : EI w w' := by
  refine ⟨hb.size, fun i cs fz h => ?_, fun p d h => ?_⟩
  · rw [hb.block i (Array.getElem?_eq_some_iff.1 h).1]; exact h
  · rw [hb.cell (p := p)]
    · exact h
    · unfold World.cell? at h
      cases hh : w.heap[p.block]? with
      | none => rw [hh] at h; cases h
      | some o => exact (Array.getElem?_eq_some_iff.1 hh).1
theorem EI.set {w : World} {g i : Nat} {T : TypeId} {cs : Array Value} {u : Value} (hk : Bk w g T cs) (hT : T ≠ 3) (hc : ∀ (j : Nat) (d : Int), cs[j]? ≠ some (.int .i64 d)) : EI w (w.setCell ⟨g, i, none⟩ u) := by
  refine ⟨by simp [World.setCell], fun j cs' fz h => ?_, fun p d h => ?_⟩
  · have hne : j ≠ g := by
      rintro rfl
      unfold Bk at hk
      rw [hk] at h
      injection h with h
      injection h with _ h
      exact hT h
    rw [Below.heap_setCell w ⟨g, i, none⟩ u j hne]; exact h
  · have hne : p.block ≠ g := by
      intro e
      unfold World.cell? at h
      unfold Bk at hk
      rw [e, hk] at h
      cases hs : p.spot.isSome
      · simp only [hs] at h
        exact hc _ _ (by simpa using h)
      · simp [hs] at h
    unfold World.cell?
    rw [Below.heap_setCell w ⟨g, i, none⟩ u p.block hne]
    exact h
theorem EI.trans {w w' w'' : World} (h : EI w w') (h' : EI w' w'') : EI w w'' := ⟨Nat.le_trans h.size h'.size, fun _i _cs _fz hh => h'.row _ _ _ (h.row _ _ _ hh), fun _p _d hh => h'.cell _ _ (h.cell _ _ hh)⟩
theorem Rd.ei {w w' : World} {n : Nat} {A : Option Addr} {l : List Nat} (h : Rd w w.heap.size 1 A n (dcs l)) (hE : EI w w') : Rd w' w'.heap.size 1 A n (dcs l) := by
  refine ⟨h.len, fun hn => ?_⟩
  obtain ⟨a, ha, hb, hc⟩ := h.at_ hn
  refine ⟨a, ha, Nat.lt_of_lt_of_le hb hE.size, fun j u hu => ?_⟩
  have h1 := hc j u hu
  obtain ⟨d, -, rfl⟩ := List.mem_map.1 (List.mem_of_getElem? hu)
  exact hE.cell _ _ h1
theorem BigV.ei {w w' : World} {v : Value} {b : Bool} {l : List Nat} (h : BigV w v b l) (hE : EI w w') : BigV w' v b l := by
  obtain ⟨A, n, c, h1, h2, h3, h4⟩ := h
  exact ⟨A, n, c, h1, h2, h3, h4.ei hE⟩

/-- What slots hold: an empty row just made; a row that reads as digits; a number in digits. -/
def FMade (base : Nat) : Value → World → Prop := fun v W => ∃ g, v = .slice (some ⟨g, 0, none⟩) 0 0 ∧ W.ownsRow base 3 1 (.slice (some ⟨g, 0, none⟩) 0 0) 0 []
def FRow (m : Nat) (L : List Nat) : Value → World → Prop := fun v W => ∃ A c, v = .slice A m c ∧ m ≤ c ∧ c ≤ maxLen ∧ Rd W W.heap.size 1 A m (dcs L)
def FBig (b : Bool) (L : List Nat) : Value → World → Prop := fun v W => BigV W v b L
def FNum (V : Int) : Value → World → Prop := fun v W => BigN W v V
theorem st_made {base : Nat} : Stable EI (FMade base) := fun v w w' hE h => by
  obtain ⟨g, rfl, ho⟩ := h
  refine ⟨g, rfl, ho.1, ?_⟩
  rcases ho.2 with ⟨h1, _⟩ | ⟨g', cap, cur, h1, h2, h3, h4⟩
  · cases h1
  · exact .inr ⟨g', cap, cur, h1, h2, hE.row _ _ _ h3, h4⟩
theorem st_row {m : Nat} {L : List Nat} : Stable EI (FRow m L) := fun v w w' hE h => by
  obtain ⟨A, c, h1, h2, h3, h4⟩ := h
  exact ⟨A, c, h1, h2, h3, h4.ei hE⟩
theorem st_big {b : Bool} {L : List Nat} : Stable EI (FBig b L) := fun _v _w _w' hE h => BigV.ei h hE
theorem st_num {V : Int} : Stable EI (FNum V) := fun _v _w _w' hE h => BigV.ei h hE

/-- A block made, a number stored into it. -/
def S3 (w : World) (n : Nat) (bs : List (Nat × TypeId × Array Value)) (V : Int) : List Value → World → Prop
  | [], W => SB w n bs W
  | [v], W => ∃ g, v = .pointer (some ⟨g, 0, none⟩) ∧ w.heap.size + n ≤ g ∧ SB w n ((g, 98, #[.bool false, .slice none 0 0]) :: bs) W
  | v :: _ :: _, W => ∃ g cs, v = .pointer (some ⟨g, 0, none⟩) ∧ w.heap.size + n ≤ g ∧ BigN W (.agg cs) V ∧ SB w n ((g, 98, cs) :: bs) W
section
variable {w W W' : World} {n : Nat} {bs : List (Nat × TypeId × Array Value)} {V : Int} {vals : List Value}
theorem S3.bk (h : S3 w n bs V vals W) {x : Nat × TypeId × Array Value} (h1 : x ∈ bs) : Bk W x.1 x.2.1 x.2.2 := by
  match vals, h with
  | [], h => exact SB.bk h x h1
  | [_], ⟨g, _, _, h⟩ => exact h.bk x (List.mem_cons_of_mem _ h1)
  | _ :: _ :: _, ⟨g, _, _, _, _, h⟩ => exact h.bk x (List.mem_cons_of_mem _ h1)
theorem S3.call (h : S3 w n bs V vals W) (hb : Below W.heap.size W W') : S3 w n bs V vals W' := by
  match vals, h with
  | [], h => exact SB.call h hb
  | [_], ⟨g, h1, h2, h⟩ => exact ⟨g, h1, h2, SB.call h hb⟩
  | _ :: _ :: _, ⟨g, cs, h1, h2, h3, h⟩ => exact ⟨g, cs, h1, h2, h3.below hb, SB.call h hb⟩
theorem S3.size (h : S3 w n bs V vals W) : w.heap.size + n ≤ W.heap.size := by
  match vals, h with
  | [], h => exact SB.size h
  | [_], ⟨g, _, _, h⟩ => exact h.size
  | _ :: _ :: _, ⟨g, _, _, _, _, h⟩ => exact h.size
end
end Go.Proofs.YtmbjmgmnicacpaaGreatDoor
