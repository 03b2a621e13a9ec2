/- Numbers as rows of digits, the lowest first: what they are worth, and when two are one. No program; no condition. -/
import Derived.Test.YtmbjmgmnicacpaaDoorBytes
namespace Go.Proofs.YtmbjmgmnicacpaaDoor

/-- What a row of digits is worth. -/
def dval : List Nat → Nat
  | [] => 0
  | d :: r => d + 10 * dval r
def Digs (l : List Nat) : Prop := ∀ d ∈ l, d < 10
/-- No nought at the end. -/
def Neat (l : List Nat) : Prop := ∀ d, l.getLast? = some d → d ≠ 0

theorem dval_append (a b : List Nat) : dval (a ++ b) = dval a + 10 ^ a.length * dval b := by
  induction a with
  | nil => simp [dval]
  | cons x a ih =>
    simp only [List.cons_append, dval, ih, List.length_cons, Nat.pow_succ]
    rw [Nat.mul_add, Nat.add_assoc]
    congr 2
    rw [← Nat.mul_assoc, Nat.mul_comm 10]

theorem dval_lt {l : List Nat} (h : Digs l) : dval l < 10 ^ l.length := by
  induction l with
  | nil => simp [dval]
  | cons x l ih =>
    have h1 := h x (List.mem_cons_self ..)
    have h2 := ih fun d hd => h d (List.mem_cons_of_mem _ hd)
    simp only [dval, List.length_cons, Nat.pow_succ]
    omega

theorem Digs.tail {x : Nat} {l : List Nat} (h : Digs (x :: l)) : Digs l := fun d hd => h d (List.mem_cons_of_mem _ hd)
theorem Digs.append {a b : List Nat} (ha : Digs a) (hb : Digs b) : Digs (a ++ b) := fun d hd => by
  rcases List.mem_append.1 hd with h | h
  · exact ha d h
  · exact hb d h
theorem Digs.take {l : List Nat} (h : Digs l) (k : Nat) : Digs (l.take k) := fun d hd => h d (List.mem_of_mem_take hd)
theorem Digs.drop {l : List Nat} (h : Digs l) (k : Nat) : Digs (l.drop k) := fun d hd => h d (List.mem_of_mem_drop hd)

theorem Neat.tail {x : Nat} {l : List Nat} (h : Neat (x :: l)) : Neat l := fun d hd => h d (by
  cases l with
  | nil => simp at hd
  | cons y l => rw [List.getLast?_cons_cons]; exact hd)
theorem Neat.nil : Neat [] := fun d hd => by simp at hd

/-- A neat row that is not empty is worth as much as its length tells. -/
theorem Neat.ge {l : List Nat} (h : Neat l) (hne : l ≠ []) : 10 ^ (l.length - 1) ≤ dval l := by
  induction l with
  | nil => exact absurd rfl hne
  | cons x l ih =>
    cases l with
    | nil =>
      have := h x (by simp)
      simp [dval]
      omega
    | cons y l =>
      have h2 := ih h.tail (by simp)
      simp only [dval, List.length_cons, Nat.add_sub_cancel] at h2 ⊢
      rw [Nat.pow_succ]
      omega

theorem Neat.eq_nil {l : List Nat} (h : Neat l) (h0 : dval l = 0) : l = [] := by
  by_cases hn : l = []
  · exact hn
  · have h1 := h.ge hn
    have h2 : 0 < 10 ^ (l.length - 1) := Nat.pow_pos (by omega)
    omega

/-- Two neat rows of one worth are one row. -/
theorem neat_ext : ∀ {a b : List Nat}, Digs a → Digs b → Neat a → Neat b → dval a = dval b → a = b
  | [], b, _, _, _, hb, h => ((hb.eq_nil (by simpa [dval] using h.symm))).symm
  | x :: a, [], _, _, ha, _, h => ha.eq_nil (by simpa [dval] using h)
  | x :: a, y :: b, da, db, ha, hb, h => by
    have hx := da x (List.mem_cons_self ..)
    have hy := db y (List.mem_cons_self ..)
    simp only [dval] at h
    have hxy : x = y := by omega
    subst hxy
    rw [neat_ext da.tail db.tail ha.tail hb.tail (by omega)]

/-- The longer of two neat rows is the greater. -/
theorem neat_len {a b : List Nat} (da : Digs a) (hb : Neat b) (h : a.length < b.length) : dval a < dval b := by
  have h1 := dval_lt da
  have h2 := hb.ge (by intro e; subst e; simp at h)
  have h3 : 10 ^ a.length ≤ 10 ^ (b.length - 1) := Nat.pow_le_pow_right (by omega) (by omega)
  omega

/-- Among rows alike long the first digit that parts them, from the top, tells. -/
theorem dval_top {p q s : List Nat} {x y : Nat} (hp : Digs p) (hq : Digs q) (hl : p.length = q.length) (h : x < y) : dval (p ++ x :: s) < dval (q ++ y :: s) := by
  rw [dval_append, dval_append, hl]
  have h1 := dval_lt hp
  have h2 := dval_lt hq
  rw [hl] at h1
  simp only [dval]
  have h3 : 10 ^ q.length * (x + 10 * dval s) + 10 ^ q.length ≤ 10 ^ q.length * (y + 10 * dval s) := by
    rw [← Nat.mul_succ]
    exact Nat.mul_le_mul_left _ (by omega)
  omega

/-- A row without the noughts at its end. -/
def neat (l : List Nat) : List Nat := (l.reverse.dropWhile (· == 0)).reverse
theorem neat_snoc_zero (l : List Nat) : neat (l ++ [0]) = neat l := by simp [neat]
theorem neat_snoc_pos {l : List Nat} {d : Nat} (h : d ≠ 0) : neat (l ++ [d]) = l ++ [d] := by simp [neat, h]
theorem dval_snoc (l : List Nat) (d : Nat) : dval (l ++ [d]) = dval l + 10 ^ l.length * d := by rw [dval_append]; simp [dval]

theorem snoc_cases (l : List Nat) : l = [] ∨ ∃ m d, l = m ++ [d] := by
  rcases List.eq_nil_or_concat l with h | ⟨m, d, h⟩
  · exact .inl h
  · exact .inr ⟨m, d, by simpa using h⟩

theorem neat_spec : ∀ (n : Nat) (l : List Nat), l.length = n → dval (neat l) = dval l ∧ Neat (neat l) ∧ ∃ k, l = neat l ++ List.replicate k 0
  | 0, l, h => by
    obtain rfl : l = [] := List.eq_nil_of_length_eq_zero h
    exact ⟨rfl, Neat.nil, 0, rfl⟩
  | n + 1, l, h => by
    rcases snoc_cases l with rfl | ⟨m, d, rfl⟩
    · simp at h
    · by_cases hd : d = 0
      · subst hd
        obtain ⟨h1, h2, k, h3⟩ := neat_spec n m (by simpa using h)
        rw [neat_snoc_zero, dval_snoc]
        refine ⟨by rw [h1]; simp, h2, k + 1, ?_⟩
        rw [List.replicate_succ', ← List.append_assoc, ← h3]
      · rw [neat_snoc_pos hd]
        exact ⟨rfl, fun x hx => by simp at hx; subst hx; exact hd, 0, by simp⟩
theorem dval_neat (l : List Nat) : dval (neat l) = dval l := (neat_spec _ l rfl).1
theorem neat_neat (l : List Nat) : Neat (neat l) := (neat_spec _ l rfl).2.1
theorem digs_neat {l : List Nat} (h : Digs l) : Digs (neat l) := by
  obtain ⟨k, hk⟩ := (neat_spec _ l rfl).2.2
  intro d hd
  exact h d (by rw [hk]; exact List.mem_append_left _ hd)

/-- The digits of a number. -/
def digs (n : Nat) : List Nat := if h : n = 0 then [] else n % 10 :: digs (n / 10)
termination_by n
decreasing_by omega
theorem digs_zero : digs 0 = [] := by rw [digs]; simp
theorem digs_pos {n : Nat} (h : 0 < n) : digs n = n % 10 :: digs (n / 10) := by rw [digs, dif_neg (by omega)]
theorem digs_spec : ∀ (m n : Nat), n ≤ m → dval (digs n) = n ∧ Digs (digs n) ∧ Neat (digs n)
  | 0, n, h => by
    obtain rfl : n = 0 := by omega
    rw [digs_zero]
    exact ⟨rfl, by simp [Digs], Neat.nil⟩
  | m + 1, n, h => by
    rcases Nat.eq_zero_or_pos n with rfl | hn
    · rw [digs_zero]; exact ⟨rfl, by simp [Digs], Neat.nil⟩
    · obtain ⟨h1, h2, h3⟩ := digs_spec m (n / 10) (by omega)
      rw [digs_pos hn]
      refine ⟨by simp only [dval, h1]; omega, fun d hd => ?_, fun d hd => ?_⟩
      · rcases List.mem_cons.1 hd with rfl | hd
        · omega
        · exact h2 d hd
      · cases hc : digs (n / 10) with
        | nil =>
          rw [hc] at hd h1
          simp at hd
          subst hd
          simp [dval] at h1
          omega
        | cons y r =>
          rw [hc, List.getLast?_cons_cons] at hd
          exact h3 d (by rw [hc]; exact hd)
theorem dval_digs (n : Nat) : dval (digs n) = n := (digs_spec n n (Nat.le_refl _)).1
theorem digs_digs (n : Nat) : Digs (digs n) := (digs_spec n n (Nat.le_refl _)).2.1
theorem neat_digs (n : Nat) : Neat (digs n) := (digs_spec n n (Nat.le_refl _)).2.2
/-- A neat row is the digits of its worth. -/
theorem digs_dval {l : List Nat} (h : Digs l) (hn : Neat l) : digs (dval l) = l := neat_ext (digs_digs _) h (neat_digs _) hn (dval_digs _)
theorem neat_eq {l : List Nat} (h : Digs l) : neat l = digs (dval l) := by
  rw [← dval_neat l]
  exact (digs_dval (digs_neat h) (neat_neat l)).symm
theorem digs_len {n k : Nat} : (digs n).length ≤ k ↔ n < 10 ^ k := by
  constructor
  · intro h
    have h1 := dval_lt (digs_digs n)
    rw [dval_digs] at h1
    exact Nat.lt_of_lt_of_le h1 (Nat.pow_le_pow_right (by omega) h)
  · intro h
    rcases Nat.eq_zero_or_pos n with rfl | hn
    · rw [digs_zero]; exact Nat.zero_le _
    · have hne : digs n ≠ [] := by rw [digs_pos hn]; simp
      have h1 := (neat_digs n).ge hne
      rw [dval_digs] at h1
      have h2 : (digs n).length - 1 < k := by
        rcases Nat.lt_or_ge ((digs n).length - 1) k with h3 | h3
        · exact h3
        · have := Nat.pow_le_pow_right (n := 10) (by omega) h3
          omega
      omega
theorem digs_up (n k : Nat) (hn : 0 < n) : digs (n * 10 ^ k) = List.replicate k 0 ++ digs n := by
  have e : dval (List.replicate k 0 ++ digs n) = n * 10 ^ k := by
    rw [dval_append, dval_digs, List.length_replicate]
    have : dval (List.replicate k 0) = 0 := by
      induction k with
      | zero => rfl
      | succ k ih => simp [List.replicate_succ, dval, ih]
    rw [this, Nat.mul_comm]
    omega
  rw [← e]
  refine digs_dval (Digs.append (fun d hd => by rw [List.eq_of_mem_replicate hd]; omega) (digs_digs n)) fun d hd => ?_
  have hne : digs n ≠ [] := by rw [digs_pos hn]; simp
  rw [List.getLast?_append, List.getLast?_eq_some_getLast hne, Option.some_or] at hd
  rw [← List.getLast?_eq_some_getLast hne] at hd
  exact neat_digs n d hd
theorem digs_drop (n k : Nat) : (digs n).drop k = digs (n / 10 ^ k) := by
  induction k generalizing n with
  | zero => simp
  | succ k ih =>
    rcases Nat.eq_zero_or_pos n with rfl | hn
    · simp [digs_zero]
    · rw [digs_pos hn, List.drop_succ_cons, ih, Nat.pow_succ, Nat.mul_comm, Nat.div_div_eq_div_mul]
end Go.Proofs.YtmbjmgmnicacpaaDoor
