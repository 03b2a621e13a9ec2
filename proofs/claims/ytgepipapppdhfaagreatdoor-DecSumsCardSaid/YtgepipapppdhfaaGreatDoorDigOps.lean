/- Sums, differences, comparisons of rows of digits, step by step. No program; no condition. -/
import Derived.Test.YtgepipapppdhfaaGreatDoorDig
namespace Go.Proofs.YtgepipapppdhfaaGreatDoor

theorem dval_take_succ (a : List Nat) (i : Nat) : dval (a.take (i + 1)) = dval (a.take i) + 10 ^ i * a.getD i 0 := by
  rcases Nat.lt_or_ge i a.length with h | h
  · rw [← List.take_append_getElem h, dval_snoc, List.length_take, Nat.min_eq_left (by omega)]
    simp [List.getD, List.getElem?_eq_getElem h]
  · rw [List.take_of_length_le h, List.take_of_length_le (by omega)]
    simp [List.getD, List.getElem?_eq_none h]
theorem dval_take_all {a : List Nat} {i : Nat} (h : a.length ≤ i) : dval (a.take i) = dval a := by rw [List.take_of_length_le h]
theorem getD_digit {a : List Nat} (h : Digs a) (i : Nat) : a.getD i 0 < 10 := by
  rcases Nat.lt_or_ge i a.length with hi | hi
  · simp only [List.getD, List.getElem?_eq_getElem hi, Option.getD_some]
    exact h _ (List.getElem_mem hi)
  · simp [List.getD, List.getElem?_eq_none hi]

/-- One digit of a sum: what is carried goes on. -/
theorem plus_step {a b out : List Nat} {i c : Nat} (h : dval out + 10 ^ i * c = dval (a.take i) + dval (b.take i)) (hl : out.length = i) :
    dval (out ++ [(c + a.getD i 0 + b.getD i 0) % 10]) + 10 ^ (i + 1) * ((c + a.getD i 0 + b.getD i 0) / 10) = dval (a.take (i + 1)) + dval (b.take (i + 1)) := by
  rw [dval_snoc, hl, dval_take_succ, dval_take_succ, Nat.pow_succ]
  generalize a.getD i 0 = x at *
  generalize b.getD i 0 = y at *
  generalize dval (a.take i) = p at *
  generalize dval (b.take i) = q at *
  generalize 10 ^ i = t at *
  have e : t * (c + x + y) = t * ((c + x + y) % 10) + t * 10 * ((c + x + y) / 10) := by
    rw [Nat.mul_assoc, ← Nat.mul_add]
    congr 1
    omega
  have e2 : t * (c + x + y) = t * c + t * x + t * y := by rw [Nat.mul_add, Nat.mul_add]
  omega
theorem plus_carry {a b : List Nat} {c i : Nat} (ha : Digs a) (hb : Digs b) (hc : c ≤ 1) : (c + a.getD i 0 + b.getD i 0) / 10 ≤ 1 := by
  have h1 := getD_digit ha i
  have h2 := getD_digit hb i
  omega
theorem plus_end {a b out : List Nat} {i : Nat} (h : dval out + 10 ^ i * 0 = dval (a.take i) + dval (b.take i)) (ha : a.length ≤ i) (hb : b.length ≤ i) : dval out = dval a + dval b := by
  rw [dval_take_all ha, dval_take_all hb] at h
  simpa using h

/-- One digit of a difference: what is borrowed goes on. -/
theorem minus_step {a b out : List Nat} {i c : Nat} (h : dval out + dval (b.take i) = dval (a.take i) + 10 ^ i * c) (hl : out.length = i) {d e : Nat} (hd : d + b.getD i 0 + c = a.getD i 0 + 10 * e) :
    dval (out ++ [d]) + dval (b.take (i + 1)) = dval (a.take (i + 1)) + 10 ^ (i + 1) * e := by
  rw [dval_snoc, hl, dval_take_succ, dval_take_succ, Nat.pow_succ]
  generalize a.getD i 0 = x at *
  generalize b.getD i 0 = y at *
  generalize dval (a.take i) = p at *
  generalize dval (b.take i) = q at *
  generalize 10 ^ i = t at *
  have e1 : t * (d + y + c) = t * (x + 10 * e) := by rw [hd]
  have e2 : t * (d + y + c) = t * d + t * y + t * c := by rw [Nat.mul_add, Nat.mul_add]
  have e3 : t * (x + 10 * e) = t * x + t * 10 * e := by rw [Nat.mul_add, Nat.mul_assoc]
  omega
/-- Behind the last digit nothing is borrowed, where the one is not less. -/
theorem minus_end {a b out : List Nat} {c : Nat} (h : dval out + dval (b.take a.length) = dval (a.take a.length) + 10 ^ a.length * c) (ho : Digs out) (hl : out.length = a.length) (hb : b.length ≤ a.length) (hle : dval b ≤ dval a) :
    dval out = dval a - dval b ∧ c = 0 := by
  rw [dval_take_all hb, dval_take_all (Nat.le_refl _)] at h
  have h1 := dval_lt ho
  rw [hl] at h1
  have h2 : c = 0 := by
    rcases Nat.eq_zero_or_pos c with h2 | h2
    · exact h2
    · have := Nat.le_mul_of_pos_right (10 ^ a.length) h2
      omega
  subst h2
  simp at h
  exact ⟨by omega, rfl⟩

/-- Which of two rows is the less, by their lengths, then from the top down. -/
def lessL (a b : List Nat) : Bool := decide (dval a < dval b)
theorem less_len {a b : List Nat} (da : Digs a) (db : Digs b) (na : Neat a) (nb : Neat b) (h : a.length ≠ b.length) : lessL a b = decide (a.length < b.length) := by
  unfold lessL
  rcases Nat.lt_or_ge a.length b.length with h1 | h1
  · simp [h1, neat_len da nb h1]
  · have := neat_len db na (by omega)
    simp; omega
theorem less_top {a b : List Nat} {i : Nat} (da : Digs a) (db : Digs b) (hl : a.length = b.length) (hi : i < a.length) (hd : a.drop (i + 1) = b.drop (i + 1)) (hne : a.getD i 0 ≠ b.getD i 0) : lessL a b = decide (a.getD i 0 < b.getD i 0) := by
  have hib : i < b.length := by omega
  have ea : a = a.take i ++ a.getD i 0 :: a.drop (i + 1) := by
    simp only [List.getD, List.getElem?_eq_getElem hi, Option.getD_some]
    rw [← List.drop_eq_getElem_cons hi, List.take_append_drop]
  have eb : b = b.take i ++ b.getD i 0 :: a.drop (i + 1) := by
    rw [hd]
    simp only [List.getD, List.getElem?_eq_getElem hib, Option.getD_some]
    rw [← List.drop_eq_getElem_cons hib, List.take_append_drop]
  have hta : (a.take i).length = (b.take i).length := by rw [List.length_take, List.length_take]; omega
  unfold lessL
  rcases Nat.lt_or_ge (a.getD i 0) (b.getD i 0) with h | h
  · have := dval_top (s := a.drop (i + 1)) (da.take i) (db.take i) hta h
    rw [← ea, ← eb] at this
    rw [decide_eq_true this, decide_eq_true h]
  · have := dval_top (s := a.drop (i + 1)) (db.take i) (da.take i) hta.symm (show b.getD i 0 < a.getD i 0 by omega)
    rw [← ea, ← eb] at this
    rw [decide_eq_false (by omega), decide_eq_false (by omega)]
theorem less_same {a : List Nat} : lessL a a = false := by simp [lessL]

/-- One digit of a quotient: the rest, ten times, and the next digit, by b. -/
theorem over_step {A x b q r n s : Nat} (hA : A = q * b + r) (hr : r < b) (hn : x + 10 * r = n * b + s) (hx : x < 10) : x + 10 * A = (n + 10 * q) * b + s ∧ n < 10 := by
  subst hA
  refine ⟨?_, ?_⟩
  · rw [Nat.add_mul, Nat.mul_add, Nat.mul_assoc]
    omega
  · have h1 : n * b < 10 * b := by omega
    exact Nat.lt_of_mul_lt_mul_right h1
theorem over_div {A q b r : Nat} (hA : A = q * b + r) (hr : r < b) : q = A / b ∧ r = A % b := by
  have hb : 0 < b := by omega
  constructor
  · rw [hA, Nat.mul_comm, Nat.mul_add_div hb, Nat.div_eq_of_lt hr, Nat.add_zero]
  · rw [hA, Nat.mul_comm, Nat.mul_add_mod, Nat.mod_eq_of_lt hr]
end Go.Proofs.YtgepipapppdhfaaGreatDoor
