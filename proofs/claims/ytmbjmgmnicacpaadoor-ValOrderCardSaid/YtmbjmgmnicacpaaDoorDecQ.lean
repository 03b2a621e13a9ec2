/- Words as decimals: what dec.Parse and the reference's ParseDec tell, as functions of a list of bytes, and that both tell the same. No program; no condition. -/
import Derived.Test.YtmbjmgmnicacpaaDoorDig
import Derived.Test.YtmbjmgmnicacpaaDoorFit
import Derived.Lib.Bytealg
namespace Go.Proofs.YtmbjmgmnicacpaaDoor

def dq (c : UInt8) : Bool := 48 ≤ c.toNat && c.toNat ≤ 57
def qv (c : UInt8) : Nat := c.toNat - 48
/-- The digits of l, the lowest first. -/
def rv (l : List UInt8) : List Nat := (l.map qv).reverse
/-- The number that the digits of l are, what is no digit let be. -/
def gqF (n : Nat) (c : UInt8) : Nat := if dq c then n * 10 + qv c else n
def gq (l : List UInt8) : Nat := l.foldl gqF 0

/-! ### The program's way -/
def digsB (l : List UInt8) : Bool := l.all dq && !l.isEmpty
def wholeB (l : List UInt8) : Bool := digsB l && (l == [48] || l.head? != some 48)
def isNeg (l : List UInt8) : Bool := l.head? == some 45
def numE (b : Bool) (n pl : Nat) (z : Bool) : DR := if n ≤ most b then (if 9 < pl ∨ z = true then ⟨0, 0, 1⟩ else ⟨sgn b n, pl, 0⟩) else ⟨0, 0, 8⟩
/-- l without its minus is r, which is w up to the point, t behind it (p: there is one). -/
def parseP (l : List UInt8) (b : Bool) (w t : List UInt8) (p : Bool) : DR :=
  if l = [45, 48] ∨ wholeB w = false ∨ p = true ∧ digsB t = false then ⟨0, 0, 2⟩ else numE b (gq (w ++ t)) t.length (t.getLast? == some 48)

/-! ### The reference's way -/
def rstep (b k : Nat) (c : UInt8) (dot : Option Nat) (D : List Nat) : Option (Option Nat × List Nat) :=
  if c = 46 ∧ dot = none ∧ b < k then some (some k, D) else if dq c then some (dot, qv c :: D) else none
def rrun (b : Nat) : Nat → List UInt8 → Option Nat → List Nat → Option (Option Nat × List Nat)
  | _, [], dot, D => some (dot, D)
  | k, c :: l, dot, D => match rstep b k c dot D with
    | none => none
    | some x => rrun b (k + 1) l x.1 x.2
def refN (b : Bool) (n pl : Nat) (z : Bool) : DR :=
  if n = 0 ∧ b = true ∧ pl = 0 then ⟨0, 0, 2⟩ else if n ≤ most (b && !(n == 0)) then (if 9 < pl ∨ 0 < pl ∧ z = true then ⟨0, 0, 1⟩ else ⟨sgn (b && !(n == 0)) n, pl, 0⟩) else ⟨0, 0, 8⟩
/-- l from its place k on (k: 1 behind a minus) has been run through. -/
def refM (l : List UInt8) (b : Bool) (k : Nat) : DR :=
  match rrun k k (l.drop k) none [] with
  | none => ⟨0, 0, 2⟩
  | some (none, D) => if l.length - k = 0 ∨ l.getD k 0 = 48 ∧ 1 < l.length - k then ⟨0, 0, 2⟩ else refN b (dval D) 0 (l.getLast? == some 48)
  | some (some d, D) => if d - k = 0 ∨ d + 1 = l.length ∨ l.getD k 0 = 48 ∧ 1 < d - k then ⟨0, 0, 2⟩ else refN b (dval D) (l.length - d - 1) (l.getLast? == some 48)

theorem dq_46 : dq 46 = false := by decide
theorem qv_lt {c : UInt8} (h : dq c = true) : qv c < 10 := by
  simp only [dq, Bool.and_eq_true, decide_eq_true_eq] at h
  unfold qv
  omega
theorem rv_cons (c : UInt8) (l : List UInt8) : rv (c :: l) = rv l ++ [qv c] := by simp [rv]
theorem rv_append (a l : List UInt8) : rv (a ++ l) = rv l ++ rv a := by simp [rv]
theorem rv_len (l : List UInt8) : (rv l).length = l.length := by simp [rv]
theorem digs_rv {l : List UInt8} (h : l.all dq = true) : Digs (rv l) := by
  intro d hd
  simp only [rv, List.mem_reverse, List.mem_map] at hd
  obtain ⟨c, hc, rfl⟩ := hd
  exact qv_lt (List.all_eq_true.1 h c hc)

/-- A run over digits alone. -/
theorem rrun_digits (b : Nat) : ∀ (l : List UInt8) (k : Nat) (dot : Option Nat) (D : List Nat), (46 ∉ l ∨ dot ≠ none ∨ k ≤ b ∧ l.all dq = true) →
    rrun b k l dot D = if l.all dq then some (dot, rv l ++ D) else none
  | [], _, dot, D, _ => by simp [rrun, rv]
  | c :: l, k, dot, D, h => by
    have hs : ¬ (c = 46 ∧ dot = none ∧ b < k) := by
      rintro ⟨rfl, h1, h2⟩
      rcases h with h | h | h
      · exact h (List.mem_cons_self ..)
      · exact h h1
      · omega
    have hl : 46 ∉ l ∨ dot ≠ none ∨ k + 1 ≤ b ∧ l.all dq = true ∨ l.all dq = true := by
      rcases h with h | h | h
      · exact .inl fun h' => h (List.mem_cons_of_mem _ h')
      · exact .inr (.inl h)
      · simp only [List.all_cons, Bool.and_eq_true] at h
        exact .inr (.inr (.inr h.2.2))
    have hl' : 46 ∉ l ∨ dot ≠ none ∨ k + 1 ≤ b ∧ l.all dq = true := by
      rcases hl with h | h | h | h
      · exact .inl h
      · exact .inr (.inl h)
      · exact .inr (.inr h)
      · exact .inl fun h' => by have := List.all_eq_true.1 h _ h'; rw [dq_46] at this; cases this
    rw [rrun, rstep, if_neg hs]
    cases hc : dq c
    · simp [hc]
    · simp only [if_true, List.all_cons, hc, Bool.true_and]
      rw [rrun_digits b l (k + 1) dot _ hl', rv_cons]
      simp

theorem rrun_point (b : Nat) (t : List UInt8) : ∀ (w : List UInt8) (k : Nat) (D : List Nat), 46 ∉ w → b ≤ k →
    rrun b k (w ++ 46 :: t) none D = if w.all dq = true ∧ b < k + w.length ∧ t.all dq = true then some (some (k + w.length), rv t ++ rv w ++ D) else none
  | [], k, D, _, hk => by
    rw [List.nil_append, rrun, rstep]
    by_cases h : b < k
    · rw [if_pos ⟨rfl, rfl, h⟩]
      simp only [rrun_digits b t (k + 1) (some k) D (.inr (.inl (by simp)))]
      simp [h, rv]
    · rw [if_neg (by omega), dq_46]
      simp [h]
  | c :: w, k, D, hw, hk => by
    have hc46 : c ≠ 46 := fun h => hw (h ▸ List.mem_cons_self ..)
    rw [List.cons_append, rrun, rstep, if_neg (fun h => hc46 h.1)]
    cases hc : dq c
    · simp [hc]
    · simp only [if_true]
      rw [rrun_point b t w (k + 1) _ (fun h => hw (List.mem_cons_of_mem _ h)) (by omega)]
      have e : k + 1 + w.length = k + (c :: w).length := by simp; omega
      have e2 : b < k + (c :: w).length := by simp; omega
      rw [e, rv_cons]
      simp [hc]

theorem gq_fold : ∀ (l : List UInt8) (n : Nat), l.all dq = true → l.foldl gqF n = n * 10 ^ l.length + dval (rv l)
  | [], n, _ => by simp [rv, dval]
  | c :: l, n, h => by
    simp only [List.all_cons, Bool.and_eq_true] at h
    rw [List.foldl_cons, gq_fold l _ h.2, gqF, if_pos h.1, rv_cons, dval_snoc, rv_len, List.length_cons, Nat.pow_succ, Nat.add_mul, Nat.mul_assoc, Nat.mul_comm 10 (10 ^ l.length), Nat.mul_comm (qv c) (10 ^ l.length)]
    omega
theorem gq_digits {l : List UInt8} (h : l.all dq = true) : gq l = dval (rv l) := by
  have := gq_fold l 0 h
  simpa [gq] using this
/-- The point among them is let be. -/
theorem gq_point (w t : List UInt8) : gq (w ++ 46 :: t) = gq (w ++ t) := by
  unfold gq
  rw [List.foldl_append, List.foldl_append, List.foldl_cons]
  congr 1

theorem dval_zero_rv : ∀ {l : List UInt8}, l.all dq = true → dval (rv l) = 0 → ∀ c ∈ l, c = 48
  | [], _, _, c, hc => by simp at hc
  | c :: l, h, h0, d, hd => by
    simp only [List.all_cons, Bool.and_eq_true] at h
    rw [rv_cons, dval_snoc] at h0
    have hp : 0 < 10 ^ (rv l).length := Nat.pow_pos (by decide)
    have h1 : dval (rv l) = 0 := by omega
    have h2 : qv c = 0 := by
      rcases Nat.eq_zero_or_pos (qv c) with h2 | h2
      · exact h2
      · have := Nat.mul_pos hp h2
        omega
    rcases List.mem_cons.1 hd with rfl | hd
    · have h3 := h.1
      simp only [dq, Bool.and_eq_true, decide_eq_true_eq] at h3
      unfold qv at h2
      exact UInt8.toNat_inj.1 (by show d.toNat = 48; omega)
    · exact dval_zero_rv h.2 h1 d hd

theorem refN_numE {b z z' : Bool} {n pl : Nat} (h : ¬ (n = 0 ∧ b = true ∧ pl = 0)) (hz : z' = (decide (0 < pl) && z)) : refN b n pl z = numE b n pl z' := by
  subst hz
  unfold refN numE
  rw [if_neg h]
  have e1 : (n ≤ most (b && !(n == 0))) = (n ≤ most b) := by
    by_cases h0 : n = 0
    · subst h0
      simp
    · have : (n == 0) = false := by simpa using h0
      rw [this, Bool.not_false, Bool.and_true]
  have e2 : sgn (b && !(n == 0)) n = sgn b n := by
    by_cases h0 : n = 0
    · subst h0
      cases b <;> simp [sgn]
    · have : (n == 0) = false := by simpa using h0
      rw [this, Bool.not_false, Bool.and_true]
  simp only [e1, e2, Bool.and_eq_true, decide_eq_true_eq]

theorem digsB_false {t : List UInt8} (h : t.all dq = true) : digsB t = false ↔ t = [] := by
  unfold digsB
  rw [h, Bool.true_and]
  cases t <;> simp
theorem wholeB_false {w : List UInt8} (h : w.all dq = true) : wholeB w = false ↔ (w.length = 0 ∨ w.getD 0 0 = 48 ∧ 1 < w.length) := by
  cases w with
  | nil => simp [wholeB, digsB]
  | cons c w =>
    have : digsB (c :: w) = true := by simp [digsB, h]
    unfold wholeB
    rw [this]
    cases w with
    | nil => simp
    | cons d w => simp
theorem whole_zero {w : List UInt8} (h : w.all dq = true) (hw : ¬ (w.length = 0 ∨ w.getD 0 0 = 48 ∧ 1 < w.length)) : dval (rv w) = 0 ↔ w = [48] := by
  constructor
  · intro h0
    have hz := dval_zero_rv h h0
    cases w with
    | nil => simp at hw
    | cons c w =>
      have hc := hz c (List.mem_cons_self ..)
      subst hc
      cases w with
      | nil => rfl
      | cons d w => simp at hw
  · rintro rfl
    rfl

/-- What is ahead of the digits: a minus, or nothing. -/
def pre (b : Bool) : List UInt8 := if b then [45] else []

theorem ref_none {l r : List UInt8} {b : Bool} (hl : l = pre b ++ r) (hn : b = false → r.head? ≠ some 45) (h46 : 46 ∉ r) : refM l b (pre b).length = parseP l b r [] false := by
  have hlen : l.length - (pre b).length = r.length := by rw [hl]; simp
  have hget : l.getD (pre b).length 0 = r.getD 0 0 := by rw [hl, List.getD_eq_getElem?_getD, List.getElem?_append_right (Nat.le_refl _), Nat.sub_self, ← List.getD_eq_getElem?_getD]
  have hneg : l = [45, 48] ↔ b = true ∧ r = [48] := by
    subst hl
    cases b
    · simp only [pre, Bool.false_eq_true, if_false, List.nil_append, false_and, iff_false]
      rintro rfl
      exact hn rfl rfl
    · simp [pre]
  have hrun : rrun (pre b).length (pre b).length (l.drop (pre b).length) none [] = if r.all dq then some (none, rv r ++ []) else none := by
    rw [hl, List.drop_left]
    exact rrun_digits _ r _ none [] (.inl h46)
  unfold refM parseP
  rw [hrun]
  cases ha : r.all dq
  · have : wholeB r = false := by simp [wholeB, digsB, ha]
    simp [this]
  · simp only [if_true, List.append_nil, hlen, hget]
    by_cases hw : r.length = 0 ∨ r.getD 0 0 = 48 ∧ 1 < r.length
    · rw [if_pos hw, if_pos (.inr (.inl ((wholeB_false ha).2 hw)))]
    · have hw' : ¬ wholeB r = false := fun h => hw ((wholeB_false ha).1 h)
      rw [if_neg hw]
      by_cases h0 : b = true ∧ r = [48]
      · rw [if_pos (.inl (hneg.2 h0))]
        unfold refN
        rw [if_pos ⟨(whole_zero ha hw).2 h0.2, h0.1, rfl⟩]
      · have h0' : ¬ (l = [45, 48] ∨ wholeB r = false ∨ false = true ∧ digsB [] = false) := by
          rintro (h | h | h)
          · exact h0 (hneg.1 h)
          · exact hw' h
          · exact Bool.noConfusion h.1
        rw [if_neg h0', gq_digits ha]
        refine refN_numE (fun h => h0 ⟨h.2.1, (whole_zero ha hw).1 h.1⟩) (by simp)

theorem ref_point {l w t : List UInt8} {b : Bool} (hl : l = pre b ++ (w ++ 46 :: t)) (h46 : 46 ∉ w) : refM l b (pre b).length = parseP l b w t true := by
  have hlen : l.length = (pre b).length + w.length + 1 + t.length := by rw [hl]; simp; omega
  have hneg : ¬ l = [45, 48] := by
    intro h
    have : (46 : UInt8) ∈ l := by rw [hl]; simp
    rw [h] at this
    revert this
    decide
  have hrun := rrun_point (pre b).length t w (pre b).length [] h46 (Nat.le_refl _)
  have hd : l.drop (pre b).length = w ++ 46 :: t := by rw [hl, List.drop_left]
  unfold refM parseP
  rw [hd, hrun]
  by_cases hc : w.all dq = true ∧ (pre b).length < (pre b).length + w.length ∧ t.all dq = true
  · obtain ⟨hw, h1, ht⟩ := hc
    have hw0 : w ≠ [] := by rintro rfl; simp at h1
    have hget : l.getD (pre b).length 0 = w.getD 0 0 := by
      rw [hl]
      cases w with
      | nil => exact absurd rfl hw0
      | cons c w => rw [List.getD_eq_getElem?_getD, List.getElem?_append_right (Nat.le_refl _), Nat.sub_self]; rfl
    have e1 : (pre b).length + w.length - (pre b).length = w.length := by omega
    have e2 : l.length - ((pre b).length + w.length) - 1 = t.length := by omega
    have e3 : (pre b).length + w.length + 1 = l.length ↔ t = [] := by rw [hlen, ← List.length_eq_zero_iff]; omega
    rw [if_pos ⟨hw, h1, ht⟩]
    simp only [List.append_nil, hget, e1, e2]
    by_cases ht0 : t = []
    · rw [if_pos (.inr (.inl (e3.2 ht0))), if_pos (.inr (.inr ⟨trivial, (digsB_false ht).2 ht0⟩))]
    · by_cases hww : w.length = 0 ∨ w.getD 0 0 = 48 ∧ 1 < w.length
      · rw [if_pos (by rcases hww with h | h; exact .inl h; exact .inr (.inr h)), if_pos (.inr (.inl ((wholeB_false hw).2 hww)))]
      · have n1 : ¬ (w.length = 0 ∨ (pre b).length + w.length + 1 = l.length ∨ w.getD 0 0 = 48 ∧ 1 < w.length) := by
          rintro (h | h | h)
          · exact hww (.inl h)
          · exact ht0 (e3.1 h)
          · exact hww (.inr h)
        have n2 : ¬ (l = [45, 48] ∨ wholeB w = false ∨ True ∧ digsB t = false) := by
          rintro (h | h | h)
          · exact hneg h
          · exact hww ((wholeB_false hw).1 h)
          · exact ht0 ((digsB_false ht).1 h.2)
        have hpl : 0 < t.length := List.length_pos_iff.2 ht0
        have hlast : l.getLast? = t.getLast? := by
          rw [hl, ← List.append_assoc, List.getLast?_append, List.getLast?_cons]
          cases h : t.getLast? with
          | none => rw [List.getLast?_eq_none_iff] at h; exact absurd h ht0
          | some x => simp
        rw [if_neg n1, if_neg n2, gq_digits (by rw [List.all_append, hw, ht]; rfl), rv_append, hlast]
        exact refN_numE (fun h => by omega) (by simp [hpl])
  · rw [if_neg hc]
    have : wholeB w = false ∨ true = true ∧ digsB t = false := by
      by_cases hw : w.all dq = true
      · by_cases ht : t.all dq = true
        · left
          have : w = [] := by
            rcases w with _ | ⟨c, w⟩
            · rfl
            · exact absurd ⟨hw, by simp, ht⟩ hc
          subst this
          rfl
        · right
          refine ⟨rfl, ?_⟩
          simp [digsB, ht]
      · left
        simp [wholeB, digsB, hw]
    rw [if_pos (.inr this)]

/-- Where the point is. -/
theorem point_cases : ∀ r : List UInt8, (46 ∉ r ∧ Lib.indexByte r 46 = -1) ∨ ∃ w t, r = w ++ 46 :: t ∧ 46 ∉ w ∧ Lib.indexByte r 46 = (w.length : Nat)
  | [] => .inl ⟨by simp, rfl⟩
  | c :: r => by
    by_cases hc : c = 46
    · subst hc
      exact .inr ⟨[], r, rfl, by simp, by simp [Lib.indexByte]⟩
    · have hb : (c == 46) = false := by simpa using hc
      rcases point_cases r with ⟨h, hi⟩ | ⟨w, t, rfl, h, hi⟩
      · refine .inl ⟨?_, ?_⟩
        · intro h'
          rcases List.mem_cons.1 h' with h' | h'
          · exact hc h'.symm
          · exact h h'
        · rw [Lib.indexByte, hb, hi]
          rfl
      · refine .inr ⟨c :: w, t, rfl, ?_, ?_⟩
        · intro h'
          rcases List.mem_cons.1 h' with h' | h'
          · exact hc h'.symm
          · exact h h'
        · rw [Lib.indexByte, hb, hi]
          have : ((w.length : Nat) : Int) ≠ -1 := by omega
          simp only [Bool.false_eq_true, if_false, beq_iff_eq, this, List.length_cons]
          omega
end Go.Proofs.YtmbjmgmnicacpaaDoor
