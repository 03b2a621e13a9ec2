/- The table's record, as told: text by text; its bounds: plainly. No condition; no model's run. -/
import Derived.Test.YtllcecnkbndokaaGreatDoorLay2
import Derived.Test.YtllcecnkbndokaaGreatDoorFront
import Derived.Test.YtllcecnkbndokaaGreatDoorCut7
namespace Go.Proofs.YtllcecnkbndokaaGreatDoor
open Go.RowKit Go.Lib

def begL (L : List (List UInt8)) (u : Int) : LS := begS (lowB u.toNat 4) (lowB L.length 4)
def layS (L : List (List UInt8)) (u : Int) : LS := layT (begL L u) L
def layP (L : List (List UInt8)) (u : Int) : List Nat := placesT (begL L u) L
def layR (L : List (List UInt8)) (u : Int) : RecM := ⟨252, (layS L u).b, (layS L u).cs, 0⟩
/-- What Encode tells: what is wrong, the record, the places. -/
def layE (L : List (List UInt8)) (u : Int) : Int := if ckTab L u = 0 then checkM (layR L u) else ckTab L u
def encR (L : List (List UInt8)) (u : Int) : RecM := if layE L u = 0 then layR L u else ⟨0, [], [], 0⟩
def encP (L : List (List UInt8)) (u : Int) : List Nat := if layE L u = 0 then layP L u else []

theorem begL_inv (L : List (List UInt8)) (u : Int) : Inv (begL L u) := begS_inv (lowB_len _ _) (lowB_len _ _)
theorem begL_len (L : List (List UInt8)) (u : Int) : (begL L u).b.length = 8 := by
  show (lowB u.toNat 4 ++ lowB L.length 4).length = 8
  rw [List.length_append, lowB_len, lowB_len]
theorem fold_bd {w : Nat} (hw : w ≤ 1) : ∀ (us : List Int) (S : LS), S.cs.length ≤ S.b.length → (us.foldl (putU w) S).b.length ≤ S.b.length + 3 * us.length ∧ (us.foldl (putU w) S).cs.length ≤ (us.foldl (putU w) S).b.length
  | [], S, h => ⟨by simp, h⟩
  | u :: us, S, h => by
    have h1 := putU_bd hw u h
    have h2 := fold_bd hw us (putU w S u) h1.2
    rw [List.foldl_cons, List.length_cons]
    exact ⟨by omega, h2.2⟩
theorem putT_bd {S : LS} {l : List UInt8} (h : S.cs.length ≤ S.b.length) (hl : uE l = 0) : (putT S l).b.length ≤ S.b.length + 3003 ∧ (putT S l).cs.length ≤ (putT S l).b.length := by
  have hc : (begT S l).cs.length ≤ S.cs.length + 1 := by
    show (cut3 S).cs.length ≤ _
    unfold cut3
    split <;> simp
  have hb := begT_len S l
  have hu : (unis l).length ≤ 1000 := (uE_valid hl).2
  have := fold_bd (flT_le l) (unis l) (begT S l) (by omega)
  refine ⟨?_, this.2⟩
  have h1 := this.1
  show ((unis l).foldl (putU (flT l)) (begT S l)).b.length ≤ _
  omega
theorem layT_bd : ∀ (ls : List (List UInt8)) (S : LS), S.cs.length ≤ S.b.length → (∀ l ∈ ls, uE l = 0) → (layT S ls).b.length ≤ S.b.length + 3003 * ls.length ∧ (layT S ls).cs.length ≤ (layT S ls).b.length
  | [], S, h, _ => ⟨by simp [layT], h⟩
  | l :: ls, S, h, h0 => by
    have h1 := putT_bd h (h0 l (by simp))
    have h2 := layT_bd ls (putT S l) h1.2 fun x hx => h0 x (List.mem_cons_of_mem _ hx)
    have e : layT S (l :: ls) = layT (putT S l) ls := rfl
    rw [e, List.length_cons]
    exact ⟨by omega, h2.2⟩
theorem layT_take {S : LS} {L : List (List UInt8)} {k : Nat} {l : List UInt8} (h : L[k]? = some l) : layT S (L.take (k + 1)) = putT (layT S (L.take k)) l := by
  have hi := List.getElem?_eq_some_iff.1 h
  rw [← List.take_append_getElem hi.1, hi.2]
  unfold layT
  rw [List.foldl_append]
  rfl
theorem placesT_app : ∀ (a b : List (List UInt8)) (S : LS), placesT S (a ++ b) = placesT S a ++ placesT (layT S a) b
  | [], _, _ => rfl
  | l :: a, b, S => by
    show S.b.length :: placesT (putT S l) (a ++ b) = _
    rw [placesT_app a b]
    rfl
theorem placesT_take {S : LS} {L : List (List UInt8)} {k : Nat} {l : List UInt8} (h : L[k]? = some l) : placesT S (L.take (k + 1)) = placesT S (L.take k) ++ [(layT S (L.take k)).b.length] := by
  have hi := List.getElem?_eq_some_iff.1 h
  rw [← List.take_append_getElem hi.1, hi.2, placesT_app]
  rfl
theorem ckTab_ok {L : List (List UInt8)} {u : Int} (h : ckTab L u = 0) : L.length ≤ 1024 ∧ (∀ l ∈ L, uE l = 0) ∧ (L.length : Int) ≤ u ∧ u ≤ 2147483647 ∧ ddT L = L := by
  unfold ckTab at h
  split at h
  · omega
  · split at h
    · rename_i h1 h2; exact absurd h h2
    · split at h
      · omega
      · split at h
        · omega
        · rename_i h1 h2 h3 h4
          exact ⟨by omega, (ckT_zero L).1 (by omega), by omega, by omega, dd_all h3⟩
theorem ckTab_cases (L : List (List UInt8)) (u : Int) : ckTab L u = 0 ∨ ckTab L u = 4 ∨ ckTab L u = 2 ∨ ckTab L u = 7 ∨ ckTab L u = 1 := by
  unfold ckTab
  have := ckT_cases L
  repeat' split
  all_goals omega
/-- What holds behind k texts. -/
theorem lay_at {L : List (List UInt8)} {u : Int} (h : ckTab L u = 0) (k : Nat) (hk : k ≤ L.length) (hn : L.length ≤ 1000) : Inv (layT (begL L u) (L.take k)) ∧ (layT (begL L u) (L.take k)).b.length ≤ 8 + 3003 * k ∧ (layT (begL L u) (L.take k)).cs.length ≤ (layT (begL L u) (L.take k)).b.length := by
  have h0 := (ckTab_ok h).2.1
  have := layT_bd (L.take k) (begL L u) (by show 0 ≤ _; omega) fun l hl => h0 l (List.mem_of_mem_take hl)
  rw [begL_len, List.length_take, Nat.min_eq_left hk] at this
  exact ⟨Inv.lay _ (begL_inv L u), this⟩
end Go.Proofs.YtllcecnkbndokaaGreatDoor
