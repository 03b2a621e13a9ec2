/- SubCounts' lists, plainly: what is joined, placed, left out. No program; no condition. -/
import Derived.Test.YtliidkampllddaaSplit
import Derived.Test.YtliidkampllddaaJoin
namespace Go.Proofs.Ytliidkampllddaa
open Go.RowKit

def scS (k : Nat) : List StreamM := (List.range k).map fun (i : Nat) => ⟨(i : Int), []⟩

/-- Each record's place, up to the i-th. -/
def setAt (R : List RecM) : Nat → List RecM
  | 0 => R
  | i + 1 => match (setAt R i)[i]? with
    | some r => (setAt R i).set i { r with at_ := 10 * (i : Int) }
    | none => setAt R i
theorem setAt_len (R : List RecM) (i : Nat) : (setAt R i).length = R.length := by
  induction i with
  | zero => rfl
  | succ i ih =>
    unfold setAt
    split
    · rw [List.length_set, ih]
    · exact ih
theorem setAt_step {R : List RecM} {i : Nat} {r : RecM} (h : (setAt R i)[i]? = some r) : setAt R (i + 1) = (setAt R i).set i { r with at_ := 10 * (i : Int) } := by
  conv => lhs; unfold setAt
  rw [h]

/-- The records of k empty substreams, placed. -/
def scR (k : Nat) : List RecM := setAt (joinM (scS k)).1 (2 * k)

def scLen (k : Nat) : Bool := decide ((joinM (scS k)).2 = 0 ∧ (joinM (scS k)).1.length = 2 * k ∧ (splitM [] none (scR k)).2.2 = 0 ∧ (splitM [] none (scR k)).1.length = k)
/-- What the law says of the one that is left out. -/
def scOut (k i : Nat) : Bool := decide ((splitM [] none ((scR k).take i ++ (scR k).drop (i + 1))).1.length = 0 ∧
  (splitM [] none ((scR k).take i ++ (scR k).drop (i + 1))).2.1 = (if i + 1 = 2 * k then 10 * ((i : Int) - 1) else 10 * ((i : Int) + 1)) ∧
  (splitM [] none ((scR k).take i ++ (scR k).drop (i + 1))).2.2 = (if i + 1 = 2 * k then 5 else 6))

theorem scLen_all : ∀ k : Fin 10, scLen k.val = true := by decide +kernel
theorem scOut_all : ∀ k : Fin 10, ∀ i : Fin 18, i.val < 2 * k.val → scOut k.val i.val = true := by decide +kernel
theorem scJoin_more : ∀ k : Fin 12, 9 < k.val → (joinM (scS k.val)).2 = 4 ∧ (joinM (scS k.val)).1.length = 0 := by decide +kernel
def wideB (r : RecM) : Bool := decide (r.data.length ≤ 140737488355328 ∧ r.cuts.length * 8 ≤ 140737488355328)
theorem scWide_all : ∀ k : Fin 10, (scR k.val).all wideB = true := by decide +kernel
theorem scWide {k : Nat} (hk : k < 10) : ∀ r ∈ scR k, Wide r := by
  intro r hr
  have := List.all_eq_true.1 (scWide_all ⟨k, hk⟩) r hr
  simpa [wideB, Wide] using this
theorem scSmall (k : Nat) : ∀ s ∈ scS k, Small s := by
  intro s hs
  obtain ⟨i, _, rfl⟩ := List.mem_map.1 hs
  exact ⟨by simp, by simp⟩

/-- The cells of the streams while they are numbered, up to the i-th. -/
def kcf (k i : Nat) : List Value := (List.range (k * 2)).map fun (j : Nat) => if j % 2 = 0 then .int .i64 (if j / 2 < i then ((j / 2 : Nat) : Int) else 0) else .slice none 0 0
theorem kcf_set {k i : Nat} : (kcf k i).set (i * 2) (.int .i64 i) = kcf k (i + 1) := by
  refine List.ext_getElem? fun j => ?_
  rw [List.getElem?_set]
  by_cases hj : i * 2 = j
  · subst hj
    by_cases hl : i * 2 < k * 2
    · simp [kcf, List.getElem?_map, List.getElem?_range, hl]
    · simp [kcf, hl]
  · rw [if_neg hj]
    simp only [kcf, List.getElem?_map]
    by_cases hl : j < k * 2
    · rw [List.getElem?_range hl]
      simp only [Option.map_some]
      by_cases h2 : j % 2 = 0
      · rw [if_pos h2, if_pos h2]
        by_cases h3 : j / 2 < i
        · rw [if_pos h3, if_pos (by omega)]
        · rw [if_neg h3, if_neg (by omega)]
      · rw [if_neg h2, if_neg h2]
    · rw [List.getElem?_eq_none (by simp; omega)]
      rfl
theorem kcf_flat : ∀ k, k < 12 → ((List.range k).map fun (i : Nat) => (([.int .i64 (i : Int), .slice none 0 0] : List Value), (⟨(i : Int), []⟩ : StreamM))).flatMap (·.1) = kcf k k
  | 0, _ => rfl | 1, _ => rfl | 2, _ => rfl | 3, _ => rfl | 4, _ => rfl | 5, _ => rfl | 6, _ => rfl | 7, _ => rfl | 8, _ => rfl | 9, _ => rfl | 10, _ => rfl | 11, _ => rfl
  | k + 12, h => absurd h (by omega)

section
variable {α : Type}
theorem flat_set {S : List (List Value × α)} {k : Nat} : (∀ p ∈ S, p.1.length = k) → ∀ {i : Nat} {p : List Value × α}, S[i]? = some p → ∀ {j : Nat} (u : Value) (x : α), j < k → (S.flatMap (·.1)).set (i * k + j) u = (S.set i (p.1.set j u, x)).flatMap (·.1) := by
  induction S with
  | nil => intro _ i p h; simp at h
  | cons q S ih =>
    intro h i p hi j u x hj
    have h1 := h q (List.mem_cons_self ..)
    simp only [List.flatMap_cons]
    cases i with
    | zero =>
      simp only [List.getElem?_cons_zero, Option.some.injEq] at hi
      subst hi
      rw [List.set_append_left _ _ (by omega)]
      simp
    | succ i =>
      simp only [List.getElem?_cons_succ] at hi
      have e : (i + 1) * k + j = k + (i * k + j) := by rw [Nat.add_mul]; omega
      rw [List.set_append_right _ _ (by omega), h1, e, Nat.add_sub_cancel_left, ih (fun q hq => h q (List.mem_cons_of_mem _ hq)) hi u x hj]
      simp
theorem flat_take {S : List (List Value × α)} {k : Nat} : (∀ p ∈ S, p.1.length = k) → ∀ i, (S.flatMap (·.1)).take (i * k) = (S.take i).flatMap (·.1) := by
  induction S with
  | nil => intro _ i; simp
  | cons q S ih =>
    intro h i
    have h1 := h q (List.mem_cons_self ..)
    cases i with
    | zero => simp
    | succ i =>
      have e : (i + 1) * k = k + i * k := by rw [Nat.add_mul]; omega
      simp only [List.flatMap_cons, List.take_succ_cons]
      rw [e, ← h1, List.take_length_add_append, h1, ih (fun q hq => h q (List.mem_cons_of_mem _ hq))]
theorem flat_drop {S : List (List Value × α)} {k : Nat} : (∀ p ∈ S, p.1.length = k) → ∀ i, (S.flatMap (·.1)).drop (i * k) = (S.drop i).flatMap (·.1) := by
  induction S with
  | nil => intro _ i; simp
  | cons q S ih =>
    intro h i
    have h1 := h q (List.mem_cons_self ..)
    cases i with
    | zero => simp
    | succ i =>
      have e : (i + 1) * k = k + i * k := by rw [Nat.add_mul]; omega
      simp only [List.flatMap_cons, List.drop_succ_cons]
      rw [e, ← h1, List.drop_length_add_append, h1, ih (fun q hq => h q (List.mem_cons_of_mem _ hq))]
end
end Go.Proofs.Ytliidkampllddaa
