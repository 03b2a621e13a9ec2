/- Bytes, numbers of two bytes, bytes as a string. No condition. -/
/- Numbers as rows of digits, the lowest first: what they are worth, and when two are one. No program; no condition. -/
/- Words as decimals: what dec.Parse and the reference's ParseDec tell, as functions of a list of bytes, and that both tell the same. No program; no condition. -/
/- dec's whole numbers of 128 bits: widen, narrow, power, isZero, sign, negate, smaller by their contracts. Condition: within the bits. -/
/- dec's whole numbers of 128 bits: sign, times, add, grow by their contracts. Condition: within the bits. -/
import Derived.Test.YtngkolcpbgibcaaGreatDoorProg
import Derived.Test.YtngkolcpbgibcaaGreatDoorJoin
import Derived.Laws.BitsAllLaws
import Derived.Laws.BitsLemmas
import Derived.Test.YtngkolcpbgibcaaGreatDoorWide
import Derived.Lib.Bytealg
import Derived.RegionTactic
import Derived.BigRegion
import Derived.Shelf.Spec.BitsCarry
set_option linter.unusedVariables false
set_option linter.unusedSimpArgs false
namespace Go.Proofs.YtngkolcpbgibcaaGreatDoor
open Go.RowKit
def by8 (n : Int) : UInt8 := UInt8.ofNat (n % 256).toNat
def b2 (n : Int) : List UInt8 := [by8 n, by8 (n / 256)]
end Go.Proofs.YtngkolcpbgibcaaGreatDoor
namespace Go.Proofs.YtngkolcpbgibcaaGreatDoor
def dval : List Nat → Nat
  | [] => 0
  | d :: r => d + 10 * dval r
def Digs (l : List Nat) : Prop := ∀ d ∈ l, d < 10
def Neat (l : List Nat) : Prop := ∀ d, l.getLast? = some d → d ≠ 0
theorem dval_append (a b : List Nat) : dval (a ++ b) = dval a + 10 ^ a.length * dval b := by
  induction a with
  | nil => simp [dval]
  | cons x a ih =>
    simp only [List.cons_append, dval, ih, List.length_cons, Nat.pow_succ]; rw [Nat.mul_add, Nat.add_assoc]
    congr 2
    rw [← Nat.mul_assoc, Nat.mul_comm 10]
theorem dval_lt {l : List Nat} (h : Digs l) : dval l < 10 ^ l.length := by
  induction l with
  | nil => simp [dval]
  | cons x l ih =>
    have h1 := h x (List.mem_cons_self ..); have h2 := ih fun d hd => h d (List.mem_cons_of_mem _ hd); simp only [dval, List.length_cons, Nat.pow_succ]; omega
theorem Digs.tail {x : Nat} {l : List Nat} (h : Digs (x :: l)) : Digs l := fun d hd => h d (List.mem_cons_of_mem _ hd)
theorem Digs.append {a b : List Nat} (ha : Digs a) (hb : Digs b) : Digs (a ++ b) := fun d hd => by
  rcases List.mem_append.1 hd with h | h
  · exact ha d h
  · exact hb d h
theorem Digs.take {l : List Nat} (h : Digs l) (k : Nat) : Digs (l.take k) := fun d hd => h d (List.mem_of_mem_take hd)
theorem Digs.drop {l : List Nat} (h : Digs l) (k : Nat) : Digs (l.drop k) := fun d hd => h d (List.mem_of_mem_drop hd)
theorem Neat.tail {x : Nat} {l : List Nat} (h : Neat (x :: l)) : Neat l := fun d hd => h d (by
  cases l with
  | nil => simp at hd
  | cons y l => rw [List.getLast?_cons_cons]; exact hd)
theorem Neat.nil : Neat [] := fun d hd => by simp at hd
theorem Neat.ge {l : List Nat} (h : Neat l) (hne : l ≠ []) : 10 ^ (l.length - 1) ≤ dval l := by
  induction l with
  | nil => exact absurd rfl hne
  | cons x l ih =>
    cases l with
    | nil =>
      have := h x (by simp); simp [dval]; omega
    | cons y l =>
      have h2 := ih h.tail (by simp); simp only [dval, List.length_cons, Nat.add_sub_cancel] at h2 ⊢; rw [Nat.pow_succ]; omega
theorem dval_snoc (l : List Nat) (d : Nat) : dval (l ++ [d]) = dval l + 10 ^ l.length * d := by rw [dval_append]; simp [dval]
def digs (n : Nat) : List Nat := if h : n = 0 then [] else n % 10 :: digs (n / 10)
termination_by n
decreasing_by omega
theorem digs_zero : digs 0 = [] := by rw [digs]; simp
theorem digs_pos {n : Nat} (h : 0 < n) : digs n = n % 10 :: digs (n / 10) := by rw [digs, dif_neg (by omega)]
theorem digs_spec : ∀ (m n : Nat), n ≤ m → dval (digs n) = n ∧ Digs (digs n) ∧ Neat (digs n)
  | 0, n, h => by
    obtain rfl : n = 0 := by omega
    rw [digs_zero]; exact ⟨rfl, by simp [Digs], Neat.nil⟩
  | m + 1, n, h => by
    rcases Nat.eq_zero_or_pos n with rfl | hn
    · rw [digs_zero]; exact ⟨rfl, by simp [Digs], Neat.nil⟩
    · obtain ⟨h1, h2, h3⟩ := digs_spec m (n / 10) (by omega); rw [digs_pos hn]; refine ⟨by simp only [dval, h1]; omega, fun d hd => ?_, fun d hd => ?_⟩
      · rcases List.mem_cons.1 hd with rfl | hd
        · omega
        · exact h2 d hd
      · cases hc : digs (n / 10) with
        | nil =>
          rw [hc] at hd h1; simp at hd; subst hd; simp [dval] at h1; omega
        | cons y r =>
          rw [hc, List.getLast?_cons_cons] at hd; exact h3 d (by rw [hc]; exact hd)
theorem dval_digs (n : Nat) : dval (digs n) = n := (digs_spec n n (Nat.le_refl _)).1
theorem digs_digs (n : Nat) : Digs (digs n) := (digs_spec n n (Nat.le_refl _)).2.1
theorem neat_digs (n : Nat) : Neat (digs n) := (digs_spec n n (Nat.le_refl _)).2.2
theorem digs_len {n k : Nat} : (digs n).length ≤ k ↔ n < 10 ^ k := by
  constructor
  · intro h; have h1 := dval_lt (digs_digs n); rw [dval_digs] at h1; exact Nat.lt_of_lt_of_le h1 (Nat.pow_le_pow_right (by omega) h)
  · intro h
    rcases Nat.eq_zero_or_pos n with rfl | hn
    · rw [digs_zero]; exact Nat.zero_le _
    · have hne : digs n ≠ [] := by rw [digs_pos hn]; simp
      have h1 := (neat_digs n).ge hne; rw [dval_digs] at h1
      have h2 : (digs n).length - 1 < k := by
        rcases Nat.lt_or_ge ((digs n).length - 1) k with h3 | h3
        · exact h3
        · have := Nat.pow_le_pow_right (n := 10) (by omega) h3; omega
      omega
end Go.Proofs.YtngkolcpbgibcaaGreatDoor
namespace Go.Proofs.YtngkolcpbgibcaaGreatDoor
def dq (c : UInt8) : Bool := 48 ≤ c.toNat && c.toNat ≤ 57
def qv (c : UInt8) : Nat := c.toNat - 48
def rv (l : List UInt8) : List Nat := (l.map qv).reverse
def gqF (n : Nat) (c : UInt8) : Nat := if dq c then n * 10 + qv c else n
def gq (l : List UInt8) : Nat := l.foldl gqF 0
/-! ### The program's way -/
def digsB (l : List UInt8) : Bool := l.all dq && !l.isEmpty
def wholeB (l : List UInt8) : Bool := digsB l && (l == [48] || l.head? != some 48)
def isNeg (l : List UInt8) : Bool := l.head? == some 45
def numE (b : Bool) (n pl : Nat) (z : Bool) : DR := if n ≤ most b then (if 9 < pl ∨ z = true then ⟨0, 0, 1⟩ else ⟨sgn b n, pl, 0⟩) else ⟨0, 0, 8⟩
def parseP (l : List UInt8) (b : Bool) (w t : List UInt8) (p : Bool) : DR :=
  if l = [45, 48] ∨ wholeB w = false ∨ p = true ∧ digsB t = false then ⟨0, 0, 2⟩ else numE b (gq (w ++ t)) t.length (t.getLast? == some 48)
/-! ### The reference's way -/
def rstep (b k : Nat) (c : UInt8) (dot : Option Nat) (D : List Nat) : Option (Option Nat × List Nat) :=
  if c = 46 ∧ dot = none ∧ b < k then some (some k, D) else if dq c then some (dot, qv c :: D) else none
def rrun (b : Nat) : Nat → List UInt8 → Option Nat → List Nat → Option (Option Nat × List Nat)
  | _, [], dot, D => some (dot, D)
  | k, c :: l, dot, D => match rstep b k c dot D with
    | none => none
    | some x => rrun b (k + 1) l x.1 x.2
def refN (b : Bool) (n pl : Nat) (z : Bool) : DR :=
  if n = 0 ∧ b = true ∧ pl = 0 then ⟨0, 0, 2⟩ else if n ≤ most (b && !(n == 0)) then (if 9 < pl ∨ 0 < pl ∧ z = true then ⟨0, 0, 1⟩ else ⟨sgn (b && !(n == 0)) n, pl, 0⟩) else ⟨0, 0, 8⟩
def refM (l : List UInt8) (b : Bool) (k : Nat) : DR :=
  match rrun k k (l.drop k) none [] with
  | none => ⟨0, 0, 2⟩
  | some (none, D) => if l.length - k = 0 ∨ l.getD k 0 = 48 ∧ 1 < l.length - k then ⟨0, 0, 2⟩ else refN b (dval D) 0 (l.getLast? == some 48)
  | some (some d, D) => if d - k = 0 ∨ d + 1 = l.length ∨ l.getD k 0 = 48 ∧ 1 < d - k then ⟨0, 0, 2⟩ else refN b (dval D) (l.length - d - 1) (l.getLast? == some 48)
theorem dq_46 : dq 46 = false := by decide
theorem qv_lt {c : UInt8} (h : dq c = true) : qv c < 10 := by
  simp only [dq, Bool.and_eq_true, decide_eq_true_eq] at h; unfold qv; omega
theorem rv_cons (c : UInt8) (l : List UInt8) : rv (c :: l) = rv l ++ [qv c] := by simp [rv]
theorem rv_append (a l : List UInt8) : rv (a ++ l) = rv l ++ rv a := by simp [rv]
theorem rv_len (l : List UInt8) : (rv l).length = l.length := by simp [rv]
theorem rrun_digits (b : Nat) : ∀ (l : List UInt8) (k : Nat) (dot : Option Nat) (D : List Nat), (46 ∉ l ∨ dot ≠ none ∨ k ≤ b ∧ l.all dq = true) →
    rrun b k l dot D = if l.all dq then some (dot, rv l ++ D) else none
  | [], _, dot, D, _ => by simp [rrun, rv]
  | c :: l, k, dot, D, h => by
    have hs : ¬ (c = 46 ∧ dot = none ∧ b < k) := by
      rintro ⟨rfl, h1, h2⟩
      rcases h with h | h | h
      · exact h (List.mem_cons_self ..)
      · exact h h1
      · omega
    have hl : 46 ∉ l ∨ dot ≠ none ∨ k + 1 ≤ b ∧ l.all dq = true ∨ l.all dq = true := by
      rcases h with h | h | h
      · exact .inl fun h' => h (List.mem_cons_of_mem _ h')
      · exact .inr (.inl h)
      · simp only [List.all_cons, Bool.and_eq_true] at h; exact .inr (.inr (.inr h.2.2))
    have hl' : 46 ∉ l ∨ dot ≠ none ∨ k + 1 ≤ b ∧ l.all dq = true := by
      rcases hl with h | h | h | h
      · exact .inl h
      · exact .inr (.inl h)
      · exact .inr (.inr h)
      · exact .inl fun h' => by have := List.all_eq_true.1 h _ h'; rw [dq_46] at this; cases this
    rw [rrun, rstep, if_neg hs]
    cases hc : dq c
    · simp [hc]
    · simp only [if_true, List.all_cons, hc, Bool.true_and]; rw [rrun_digits b l (k + 1) dot _ hl', rv_cons]; simp
theorem rrun_point (b : Nat) (t : List UInt8) : ∀ (w : List UInt8) (k : Nat) (D : List Nat), 46 ∉ w → b ≤ k →
    rrun b k (w ++ 46 :: t) none D = if w.all dq = true ∧ b < k + w.length ∧ t.all dq = true then some (some (k + w.length), rv t ++ rv w ++ D) else none
  | [], k, D, _, hk => by
    rw [List.nil_append, rrun, rstep]
    by_cases h : b < k
    · rw [if_pos ⟨rfl, rfl, h⟩]; simp only [rrun_digits b t (k + 1) (some k) D (.inr (.inl (by simp)))]; simp [h, rv]
    · rw [if_neg (by omega), dq_46]; simp [h]
  | c :: w, k, D, hw, hk => by
    have hc46 : c ≠ 46 := fun h => hw (h ▸ List.mem_cons_self ..); rw [List.cons_append, rrun, rstep, if_neg (fun h => hc46 h.1)]
    cases hc : dq c
    · simp [hc]
    · simp only [if_true]; rw [rrun_point b t w (k + 1) _ (fun h => hw (List.mem_cons_of_mem _ h)) (by omega)]; have e : k + 1 + w.length = k + (c :: w).length := by simp; omega
      have e2 : b < k + (c :: w).length := by simp; omega
      rw [e, rv_cons]; simp [hc]
theorem gq_fold : ∀ (l : List UInt8) (n : Nat), l.all dq = true → l.foldl gqF n = n * 10 ^ l.length + dval (rv l)
  | [], n, _ => by simp [rv, dval]
  | c :: l, n, h => by
    simp only [List.all_cons, Bool.and_eq_true] at h; rw [List.foldl_cons, gq_fold l _ h.2, gqF, if_pos h.1, rv_cons, dval_snoc, rv_len, List.length_cons, Nat.pow_succ, Nat.add_mul, Nat.mul_assoc, Nat.mul_comm 10 (10 ^ l.length), Nat.mul_comm (qv c) (10 ^ l.length)]; omega
theorem gq_digits {l : List UInt8} (h : l.all dq = true) : gq l = dval (rv l) := by
  have := gq_fold l 0 h
  simpa [gq] using this
theorem gq_point (w t : List UInt8) : gq (w ++ 46 :: t) = gq (w ++ t) := by
  unfold gq; rw [List.foldl_append, List.foldl_append, List.foldl_cons]
  congr 1
theorem dval_zero_rv : ∀ {l : List UInt8}, l.all dq = true → dval (rv l) = 0 → ∀ c ∈ l, c = 48
  | [], _, _, c, hc => by simp at hc
  | c :: l, h, h0, d, hd => by
    simp only [List.all_cons, Bool.and_eq_true] at h; rw [rv_cons, dval_snoc] at h0; have hp : 0 < 10 ^ (rv l).length := Nat.pow_pos (by decide); have h1 : dval (rv l) = 0 := by omega
    have h2 : qv c = 0 := by
      rcases Nat.eq_zero_or_pos (qv c) with h2 | h2
      · exact h2
      · have := Nat.mul_pos hp h2; omega
    rcases List.mem_cons.1 hd with rfl | hd
    · have h3 := h.1; simp only [dq, Bool.and_eq_true, decide_eq_true_eq] at h3; unfold qv at h2; exact UInt8.toNat_inj.1 (by show d.toNat = 48; omega)
    · exact dval_zero_rv h.2 h1 d hd
theorem refN_numE {b z z' : Bool} {n pl : Nat} (h : ¬ (n = 0 ∧ b = true ∧ pl = 0)) (hz : z' = (decide (0 < pl) && z)) : refN b n pl z = numE b n pl z' := by
  subst hz; unfold refN numE; rw [if_neg h]
  have e1 : (n ≤ most (b && !(n == 0))) = (n ≤ most b) := by
    by_cases h0 : n = 0
    · subst h0; simp
    · have : (n == 0) = false := by simpa using h0
      rw [this, Bool.not_false, Bool.and_true]
  have e2 : sgn (b && !(n == 0)) n = sgn b n := by
    by_cases h0 : n = 0
    · subst h0
      cases b <;> simp [sgn]
    · have : (n == 0) = false := by simpa using h0
      rw [this, Bool.not_false, Bool.and_true]
  simp only [e1, e2, Bool.and_eq_true, decide_eq_true_eq]
theorem digsB_false {t : List UInt8} (h : t.all dq = true) : digsB t = false ↔ t = [] := by
  unfold digsB; rw [h, Bool.true_and]
  cases t <;> simp
theorem wholeB_false {w : List UInt8} (h : w.all dq = true) : wholeB w = false ↔ (w.length = 0 ∨ w.getD 0 0 = 48 ∧ 1 < w.length) := by
  cases w with
  | nil => simp [wholeB, digsB]
  | cons c w =>
    have : digsB (c :: w) = true := by simp [digsB, h]
    unfold wholeB; rw [this]
    cases w with
    | nil => simp
    | cons d w => simp
theorem whole_zero {w : List UInt8} (h : w.all dq = true) (hw : ¬ (w.length = 0 ∨ w.getD 0 0 = 48 ∧ 1 < w.length)) : dval (rv w) = 0 ↔ w = [48] := by
  constructor
  · intro h0; have hz := dval_zero_rv h h0
    cases w with
    | nil => simp at hw
    | cons c w =>
      have hc := hz c (List.mem_cons_self ..); subst hc
      cases w with
      | nil => rfl
      | cons d w => simp at hw
  · rintro rfl; rfl
def pre (b : Bool) : List UInt8 := if b then [45] else []
theorem ref_none {l r : List UInt8} {b : Bool} (hl : l = pre b ++ r) (hn : b = false → r.head? ≠ some 45) (h46 : 46 ∉ r) : refM l b (pre b).length = parseP l b r [] false := by
  have hlen : l.length - (pre b).length = r.length := by rw [hl]; simp
  have hget : l.getD (pre b).length 0 = r.getD 0 0 := by rw [hl, List.getD_eq_getElem?_getD, List.getElem?_append_right (Nat.le_refl _), Nat.sub_self, ← List.getD_eq_getElem?_getD]
  have hneg : l = [45, 48] ↔ b = true ∧ r = [48] := by
    subst hl
    cases b
    · simp only [pre, Bool.false_eq_true, if_false, List.nil_append, false_and, iff_false]; rintro rfl; exact hn rfl rfl
    · simp [pre]
  have hrun : rrun (pre b).length (pre b).length (l.drop (pre b).length) none [] = if r.all dq then some (none, rv r ++ []) else none := by
    rw [hl, List.drop_left]; exact rrun_digits _ r _ none [] (.inl h46)
  unfold refM parseP; rw [hrun]
  cases ha : r.all dq
  · have : wholeB r = false := by simp [wholeB, digsB, ha]
    simp [this]
  · simp only [if_true, List.append_nil, hlen, hget]
    by_cases hw : r.length = 0 ∨ r.getD 0 0 = 48 ∧ 1 < r.length
    · rw [if_pos hw, if_pos (.inr (.inl ((wholeB_false ha).2 hw)))]
    · have hw' : ¬ wholeB r = false := fun h => hw ((wholeB_false ha).1 h); rw [if_neg hw]
      by_cases h0 : b = true ∧ r = [48]
      · rw [if_pos (.inl (hneg.2 h0))]; unfold refN; rw [if_pos ⟨(whole_zero ha hw).2 h0.2, h0.1, rfl⟩]
      · have h0' : ¬ (l = [45, 48] ∨ wholeB r = false ∨ false = true ∧ digsB [] = false) := by
          rintro (h | h | h)
          · exact h0 (hneg.1 h)
          · exact hw' h
          · exact Bool.noConfusion h.1
        rw [if_neg h0', gq_digits ha]; refine refN_numE (fun h => h0 ⟨h.2.1, (whole_zero ha hw).1 h.1⟩) (by simp)
theorem ref_point {l w t : List UInt8} {b : Bool} (hl : l = pre b ++ (w ++ 46 :: t)) (h46 : 46 ∉ w) : refM l b (pre b).length = parseP l b w t true := by
  have hlen : l.length = (pre b).length + w.length + 1 + t.length := by rw [hl]; simp; omega
  have hneg : ¬ l = [45, 48] := by
    intro h; have : (46 : UInt8) ∈ l := by rw [hl]; simp
    rw [h] at this; revert this
    decide
  have hrun := rrun_point (pre b).length t w (pre b).length [] h46 (Nat.le_refl _); have hd : l.drop (pre b).length = w ++ 46 :: t := by rw [hl, List.drop_left]
  unfold refM parseP; rw [hd, hrun]
  by_cases hc : w.all dq = true ∧ (pre b).length < (pre b).length + w.length ∧ t.all dq = true
  · obtain ⟨hw, h1, ht⟩ := hc; have hw0 : w ≠ [] := by rintro rfl; simp at h1
    have hget : l.getD (pre b).length 0 = w.getD 0 0 := by
      rw [hl]
      cases w with
      | nil => exact absurd rfl hw0
      | cons c w => rw [List.getD_eq_getElem?_getD, List.getElem?_append_right (Nat.le_refl _), Nat.sub_self]; rfl
    have e1 : (pre b).length + w.length - (pre b).length = w.length := by omega
    have e2 : l.length - ((pre b).length + w.length) - 1 = t.length := by omega
    have e3 : (pre b).length + w.length + 1 = l.length ↔ t = [] := by rw [hlen, ← List.length_eq_zero_iff]; omega
    rw [if_pos ⟨hw, h1, ht⟩]; simp only [List.append_nil, hget, e1, e2]
    by_cases ht0 : t = []
    · rw [if_pos (.inr (.inl (e3.2 ht0))), if_pos (.inr (.inr ⟨trivial, (digsB_false ht).2 ht0⟩))]
    · by_cases hww : w.length = 0 ∨ w.getD 0 0 = 48 ∧ 1 < w.length
      · rw [if_pos (by rcases hww with h | h; exact .inl h; exact .inr (.inr h)), if_pos (.inr (.inl ((wholeB_false hw).2 hww)))]
      · have n1 : ¬ (w.length = 0 ∨ (pre b).length + w.length + 1 = l.length ∨ w.getD 0 0 = 48 ∧ 1 < w.length) := by
          rintro (h | h | h)
          · exact hww (.inl h)
          · exact ht0 (e3.1 h)
          · exact hww (.inr h)
        have n2 : ¬ (l = [45, 48] ∨ wholeB w = false ∨ True ∧ digsB t = false) := by
          rintro (h | h | h)
          · exact hneg h
          · exact hww ((wholeB_false hw).1 h)
          · exact ht0 ((digsB_false ht).1 h.2)
        have hpl : 0 < t.length := List.length_pos_iff.2 ht0
        have hlast : l.getLast? = t.getLast? := by
          rw [hl, ← List.append_assoc, List.getLast?_append, List.getLast?_cons]
          cases h : t.getLast? with
          | none => rw [List.getLast?_eq_none_iff] at h; exact absurd h ht0
          | some x => simp
        rw [if_neg n1, if_neg n2, gq_digits (by rw [List.all_append, hw, ht]; rfl), rv_append, hlast]; exact refN_numE (fun h => by omega) (by simp [hpl])
  · rw [if_neg hc]
    have : wholeB w = false ∨ true = true ∧ digsB t = false := by
      by_cases hw : w.all dq = true
      · by_cases ht : t.all dq = true
        · left
          have : w = [] := by
            rcases w with _ | ⟨c, w⟩
            · rfl
            · exact absurd ⟨hw, by simp, ht⟩ hc
          subst this; rfl
        · right
          refine ⟨rfl, ?_⟩; simp [digsB, ht]
      · left
        simp [wholeB, digsB, hw]
    rw [if_pos (.inr this)]
theorem point_cases : ∀ r : List UInt8, (46 ∉ r ∧ Lib.indexByte r 46 = -1) ∨ ∃ w t, r = w ++ 46 :: t ∧ 46 ∉ w ∧ Lib.indexByte r 46 = (w.length : Nat)
  | [] => .inl ⟨by simp, rfl⟩
  | c :: r => by
    by_cases hc : c = 46
    · subst hc; exact .inr ⟨[], r, rfl, by simp, by simp [Lib.indexByte]⟩
    · have hb : (c == 46) = false := by simpa using hc
      rcases point_cases r with ⟨h, hi⟩ | ⟨w, t, rfl, h, hi⟩
      · refine .inl ⟨?_, ?_⟩
        · intro h'
          rcases List.mem_cons.1 h' with h' | h'
          · exact hc h'.symm
          · exact h h'
        · rw [Lib.indexByte, hb, hi]; rfl
      · refine .inr ⟨c :: w, t, rfl, ?_, ?_⟩
        · intro h'
          rcases List.mem_cons.1 h' with h' | h'
          · exact hc h'.symm
          · exact h h'
        · rw [Lib.indexByte, hb, hi]; have : ((w.length : Nat) : Int) ≠ -1 := by omega
          simp only [Bool.false_eq_true, if_false, beq_iff_eq, this, List.length_cons]; omega
end Go.Proofs.YtngkolcpbgibcaaGreatDoor
namespace Go.Proofs.YtngkolcpbgibcaaGreatDoor
open Go.RowKit
def hi (n : Nat) : Nat := n / 18446744073709551616
def lo (n : Nat) : Nat := n % 18446744073709551616
theorem lo_lt (n : Nat) : lo n < 18446744073709551616 := Nat.mod_lt _ (by decide)
theorem hi_lt {n : Nat} (h : n < 340282366920938463463374607431768211456) : hi n < 18446744073709551616 := by unfold hi; omega
theorem hi_lo (n : Nat) : hi n * 18446744073709551616 + lo n = n := by unfold hi lo; omega
theorem hi_small {n : Nat} (h : n < 18446744073709551616) : hi n = 0 := by unfold hi; omega
theorem lo_small {n : Nat} (h : n < 18446744073709551616) : lo n = n := by unfold lo; omega
def wd (b : Bool) (n : Nat) : Value := .agg #[.bool b, .int .u64 (hi n : Nat), .int .u64 (lo n : Nat)]
theorem wd_small {b : Bool} {n : Nat} (h : n < 18446744073709551616) : wd b n = .agg #[.bool b, .int .u64 0, .int .u64 (n : Nat)] := by
  unfold wd; rw [hi_small h, lo_small h]; rfl
theorem wd_parts (b : Bool) (n : Nat) : wd b n = .agg #[.bool b, .int .u64 (hi n : Nat), .int .u64 (lo n : Nat)] := rfl
theorem bel0 (w : World) (o : Obj) : Below w.heap.size w (w.alloc o) := (Below.refl _ _).alloc (Nat.le_refl _) o
theorem bel1 (w : World) (o o' : Obj) : Below w.heap.size w ((w.alloc o).alloc o') := (bel0 w o).alloc (by simp) o'
theorem bel2 (w : World) (o o' o'' : Obj) : Below w.heap.size w (((w.alloc o).alloc o').alloc o'') := (bel1 w o o').alloc (by simp; omega) o''
theorem bx2 {w w1 : World} {T T' : TypeId} {cs cs' : Array Value} (hb : Below ((w.alloc (.cells cs T)).alloc (.cells cs' T')).heap.size ((w.alloc (.cells cs T)).alloc (.cells cs' T')) w1) :
    Bk w1 w.heap.size T cs ∧ Bk w1 (w.heap.size + 1) T' cs' ∧ Below w.heap.size w w1 ∧ w.heap.size + 2 ≤ w1.heap.size := by
  have k2 := (Bk.new (w.alloc (.cells cs T)) T' cs').below hb (by simp); simp only [World.size_alloc] at k2; exact ⟨((Bk.new w T cs).alloc _).below hb (by simp; omega), k2, (bel1 w _ _).trans (hb.mono (by simp; omega)), by have := hb.size; simp at this; omega⟩
theorem bx3 {w w1 : World} {T T' T'' : TypeId} {cs cs' cs'' : Array Value} (hb : Below (((w.alloc (.cells cs T)).alloc (.cells cs' T')).alloc (.cells cs'' T'')).heap.size (((w.alloc (.cells cs T)).alloc (.cells cs' T')).alloc (.cells cs'' T'')) w1) :
    Bk w1 w.heap.size T cs ∧ Bk w1 (w.heap.size + 1) T' cs' ∧ Bk w1 (w.heap.size + 1 + 1) T'' cs'' ∧ Below w.heap.size w w1 ∧ w.heap.size + 3 ≤ w1.heap.size := by
  have k2 := ((Bk.new (w.alloc (.cells cs T)) T' cs').alloc (.cells cs'' T'')).below hb (by simp); have k3 := (Bk.new ((w.alloc (.cells cs T)).alloc (.cells cs' T')) T'' cs'').below hb (by simp); simp only [World.size_alloc] at k2 k3; exact ⟨(((Bk.new w T cs).alloc _).alloc _).below hb (by simp; omega), k2, k3, (bel2 w _ _ _).trans (hb.mono (by simp; omega)), by have := hb.size; simp at this; omega⟩
theorem widen_any {w : World} {m : Int} (h0 : -9223372036854775808 ≤ m) (h1 : m ≤ 9223372036854775807) :
    Calls Tryz.prog 88 #[.int .i64 m] w fun e w' => e = .returned (wd (decide (m < 0)) m.natAbs) ∧ Below w.heap.size w w' := by
  by_cases h : m < 0
  · have HV := Lib.hid (show wd (decide (m < 0)) m.natAbs = .agg #[.bool true, .int .u64 0, .int .u64 (IntKind.u64.wrap (-IntKind.u64.wrap m))] by
      rw [wd_small (by omega), decide_eq_true h, IntKind.wrap_u64, IntKind.wrap_u64, show ((m.natAbs : Nat) : Int) = -(m % 18446744073709551616) % 18446744073709551616 by omega])
    go_enter Tryz.func88, Tryz.ntmps88; go_wp2; refine bodyPost_ret (v := .agg #[.bool true, .int .u64 0, .int .u64 (IntKind.u64.wrap (-IntKind.u64.wrap m))]) (by simp [results, Tryz.results88, go_sem]) rfl ⟨by rw [HV.out], bel0 _ _⟩
  · have HV := Lib.hid (show wd (decide (m < 0)) m.natAbs = .agg #[.bool false, .int .u64 0, .int .u64 m] by
      rw [wd_small (by omega), decide_eq_false h, show ((m.natAbs : Nat) : Int) = m by omega])
    go_enter Tryz.func88, Tryz.ntmps88; go_wp2; refine bodyPost_ret (v := .agg #[.bool false, .int .u64 0, .int .u64 m]) (by simp [results, Tryz.results88, go_sem]) rfl ⟨by rw [HV.out], bel0 _ _⟩
def nrw (b : Bool) (n : Nat) : Bool := decide (n ≤ most b)
def nrv (b : Bool) (n : Nat) : Int := if n ≤ most b then sgn b n else 0
theorem narrow_any {w : World} {b : Bool} {n : Nat} (hn : n < 340282366920938463463374607431768211456) :
    Calls Tryz.prog 162 #[wd b n] w fun e w' => e = .returned (.tuple #[.int .i64 (nrv b n), .bool (nrw b n)]) ∧ Below w.heap.size w w' := by
  have hl := lo_lt n; have hh := hi_lt hn; have hhl := hi_lo n; unfold wd
  by_cases h : 0 < hi n
  · have HV := Lib.hid (show nrv b n = 0 ∧ nrw b n = false by unfold nrv nrw most; cases b <;> simp <;> omega); generalize hi n = p at *; generalize lo n = q at *; have h' : (0 : Int) < (p : Int) := by omega
    clear hhl
    cases b
    all_goals
      go_enter Tryz.func162, Tryz.ntmps162; go_wp2
      go_ret2
      exact ⟨by rw [HV.out.1, HV.out.2]; rfl, bel0 _ _⟩
  · have h0 : hi n = 0 := by omega
    have hq : lo n = n := by omega
    rw [h0, hq]
    by_cases hm : n ≤ most b
    · have HV := Lib.hid (show nrv b n = sgn b n ∧ nrw b n = true by unfold nrv nrw; simp [hm]); clear h0 hq hhl hh h; rw [show lo n = n by unfold lo at hl ⊢; cases b <;> simp [most] at hm <;> omega] at hl
      cases b
      · have hm' : (n : Int) ≤ 9223372036854775807 := by simp [most] at hm; omega
        go_enter Tryz.func162, Tryz.ntmps162; go_wp2
        go_ret2
        refine ⟨?_, bel0 _ _⟩; rw [HV.out.1, HV.out.2]; simp [sgn]
      · have hm' : (n : Int) ≤ 9223372036854775808 := by simp [most] at hm; omega
        have HE := Lib.hid (show wrap64 (IntKind.u64.wrap (-(n : Int))) = -(n : Int) by rw [IntKind.wrap_u64]; unfold wrap64; omega); go_enter Tryz.func162, Tryz.ntmps162; go_wp2
        go_ret2
        refine ⟨?_, bel0 _ _⟩; rw [HV.out.1, HV.out.2]; simp [sgn, HE.out]
    · have HV := Lib.hid (show nrv b n = 0 ∧ nrw b n = false by unfold nrv nrw; simp [hm]); clear h0 hq hhl hh h; have hl2 : n < 340282366920938463463374607431768211456 := hn
      cases b
      · have hm' : (9223372036854775807 : Int) < (n : Int) := by simp [most] at hm; omega
        go_enter Tryz.func162, Tryz.ntmps162; go_wp2
        go_ret2
        exact ⟨by rw [HV.out.1, HV.out.2]; rfl, bel0 _ _⟩
      · have hm' : (9223372036854775808 : Int) < (n : Int) := by simp [most] at hm; omega
        go_enter Tryz.func162, Tryz.ntmps162; go_wp2
        go_ret2
        exact ⟨by rw [HV.out.1, HV.out.2]; rfl, bel0 _ _⟩
theorem pow10_le {k m : Nat} (h : k ≤ m) : 10 ^ k ≤ 10 ^ m := Nat.pow_le_pow_right (by omega) h
theorem power_any {w : World} {k : Nat} (hk : k ≤ 19) :
    Calls Tryz.prog 96 #[.int .i64 k] w fun e w' => e = .returned (.int .u64 (10 ^ k : Nat)) ∧ w = w' := by
  go_enter Tryz.func96, Tryz.ntmps96; go_wp2
  go_loop [3, 5] (fun p i => ∃ j : Nat, j ≤ k ∧ i = .int .i64 j ∧ p = .int .u64 (10 ^ j : Nat)) (fun _ i => k - (intOf i).toNat)
  case atStart => exact ⟨0, Nat.zero_le _, rfl, rfl⟩
  case round =>
    obtain ⟨j, hj, rfl, rfl⟩ := hrel
    by_cases hjk : j < k
    · have hjk' : (j : Int) < (k : Int) := by omega
      have h1 : 10 ^ (j + 1) ≤ 10 ^ 19 := pow10_le (by omega); have h2 : 10 ^ (j + 1) = 10 ^ j * 10 := Nat.pow_succ ..; have H2 := Lib.hid h2; have h3 : 10 ^ j * 10 ≤ 10000000000000000000 := by rw [← h2]; exact h1
      clear h1 h2; generalize 10 ^ j = x at *; go_wp2
      go_round
      case rel => exact ⟨j + 1, by omega, by go_num, by rw [H2.out]; go_num⟩
      case measure => simp [intOf]; omega
    · have : j = k := by omega
      subst this; go_wp2; go_ret; exact ⟨rfl, rfl⟩
theorem isZero_any {w : World} {b : Bool} {n : Nat} :
    Calls Tryz.prog 163 #[wd b n] w fun e w' => e = .returned (.bool (decide (n = 0))) ∧ Below w.heap.size w w' := by
  have hhl := hi_lo n; unfold wd
  by_cases h0 : hi n = 0
  · by_cases h1 : lo n = 0
    · have HV := Lib.hid (show decide (n = 0) = true by simp; omega); rw [h0, h1]; clear hhl h0 h1; go_enter Tryz.func163, Tryz.ntmps163; go_wp2; go_ret; exact ⟨by rw [HV.out]; rfl, bel0 _ _⟩
    · have HV := Lib.hid (show decide (n = 0) = false by simp; omega); rw [h0]; have h1' : (((lo n : Nat) : Int) == 0) = false := by simp; omega
      clear hhl h0 h1; generalize lo n = q at *; go_enter Tryz.func163, Tryz.ntmps163; go_wp2; go_ret; exact ⟨by rw [HV.out]; rfl, bel0 _ _⟩
  · have HV := Lib.hid (show decide (n = 0) = false by simp; omega); have h1' : (((hi n : Nat) : Int) == 0) = false := by simp; omega
    clear hhl h0; generalize lo n = q at *; generalize hi n = p at *; go_enter Tryz.func163, Tryz.ntmps163; go_wp2; go_ret; exact ⟨by rw [HV.out]; rfl, bel0 _ _⟩
theorem negate_any {w : World} {b : Bool} {n : Nat} :
    Calls Tryz.prog 93 #[wd b n] w fun e w' => e = .returned (wd (!b) n) ∧ Below w.heap.size w w' := by
  unfold wd; generalize lo n = q; generalize hi n = p; go_enter Tryz.func93, Tryz.ntmps93; go_wp2; refine bodyPost_ret (v := .agg #[.bool (!b), .int .u64 (p : Nat), .int .u64 (q : Nat)]) (by simp [results, Tryz.results93, go_sem]) rfl ⟨rfl, bel1 _ _ _⟩
theorem smaller_any {w : World} {a b : Bool} {m n : Nat} :
    Calls Tryz.prog 165 #[wd a m, wd b n] w fun e w' => e = .returned (.bool (decide (m < n))) ∧ Below w.heap.size w w' := by
  have hm := hi_lo m; have hn := hi_lo n; have hm2 := lo_lt m; have hn2 := lo_lt n; unfold wd
  by_cases h0 : hi m < hi n
  · have HV := Lib.hid (show decide (m < n) = true by simp; omega); clear hm hn hm2 hn2; generalize lo n = q; generalize hi n = p at *; generalize lo m = s; generalize hi m = r at *; have h0' : (r : Int) < (p : Int) := by omega
    go_enter Tryz.func165, Tryz.ntmps165; go_wp2; go_ret; exact ⟨by rw [HV.out]; rfl, bel1 _ _ _⟩
  · by_cases h1 : hi m = hi n
    · rw [h1]
      by_cases h2 : lo m < lo n
      · have HV := Lib.hid (show decide (m < n) = true by simp; omega); clear hm hn hm2 hn2 h0 h1; generalize lo n = q at *; generalize hi n = p at *; generalize lo m = s at *; have h0' : (s : Int) < (q : Int) := by omega
        go_enter Tryz.func165, Tryz.ntmps165; go_wp2; go_ret; exact ⟨by rw [HV.out]; rfl, bel1 _ _ _⟩
      · have HV := Lib.hid (show decide (m < n) = false by simp; omega); clear hm hn hm2 hn2 h0 h1; generalize lo n = q at *; generalize hi n = p at *; generalize lo m = s at *; have h0' : ¬ (s : Int) < (q : Int) := by omega
        go_enter Tryz.func165, Tryz.ntmps165; go_wp2; go_ret; exact ⟨by rw [HV.out]; rfl, bel1 _ _ _⟩
    · have HV := Lib.hid (show decide (m < n) = false by simp; omega); clear hm hn hm2 hn2; generalize lo n = q at *; generalize hi n = p at *; generalize lo m = s at *; generalize hi m = r at *; have h0' : ¬ (r : Int) < (p : Int) := by omega
      have h1' : ((r : Int) == (p : Int)) = false := by simp; omega
      clear h0 h1; go_enter Tryz.func165, Tryz.ntmps165; go_wp2; go_ret; exact ⟨by rw [HV.out]; rfl, bel1 _ _ _⟩
end Go.Proofs.YtngkolcpbgibcaaGreatDoor
namespace Go.Proofs.YtngkolcpbgibcaaGreatDoor
open Go.RowKit
theorem add64_run (x y c : Nat) (hc : c ≤ 1) (w : World) :
    (callFunc 164 #[.int .u64 x, .int .u64 y, .int .u64 c]).run Tryz.prog w = .ok (.value (.tuple #[.int .u64 (((x + y + c) % 18446744073709551616 : Nat) : Int), .int .u64 (((x + y + c) / 18446744073709551616 : Nat) : Int)])) w := by
  rw [run_callFunc_extern Tryz.func164 (by kernel_rfl) (by kernel_rfl) (by kernel_rfl) (e := add64Entry) (by kernel_rfl), run_add64 x y c (by omega) (by omega) (by omega) (by omega)]; simp only [Result.andThen]
  congr 5 <;> omega
theorem sub64_run (x y c : Nat) (hc : c ≤ 1) (w : World) :
    (callFunc 166 #[.int .u64 x, .int .u64 y, .int .u64 c]).run Tryz.prog w = .ok (.value (.tuple #[.int .u64 (((x + 18446744073709551616 - y - c) % 18446744073709551616 : Nat) : Int), .int .u64 ((if x < y + c then 1 else 0 : Nat) : Int)])) w := by
  rw [run_callFunc_extern Tryz.func166 (by kernel_rfl) (by kernel_rfl) (by kernel_rfl) (e := sub64Entry) (by kernel_rfl), run_sub64 x y c hc]; rfl
theorem bcell {W w1 : World} (hb : Below W.heap.size W w1) : (∀ b o, b < W.heap.size → w1.cell? ⟨b, o, none⟩ = W.cell? ⟨b, o, none⟩) ∧ (∀ b o, b < W.heap.size → w1.frozen? ⟨b, o, none⟩ = W.frozen? ⟨b, o, none⟩) :=
  ⟨fun b o h => hb.cell (p := ⟨b, o, none⟩) h, fun b o h => hb.frozen (p := ⟨b, o, none⟩) h⟩
theorem sign_any {w : World} {b : Bool} {n : Nat} :
    Calls Tryz.prog 90 #[wd b n] w fun e w' => e = .returned (.int .i64 (cmp (sgn b n) 0)) ∧ Below w.heap.size w w' := by
  by_cases h0 : n = 0
  · have HV := Lib.hid (show cmp (sgn b n) 0 = 0 by subst h0; unfold cmp sgn; cases b <;> simp); have HZ := Lib.hid (show decide (n = 0) = true by simp [h0]); clear h0; have HW := Lib.hid (wd_parts b n); rw [HW.out]; go_enter Tryz.func90, Tryz.ntmps90
    go_wp2_with fail
    rw [← HW.out]; refine isZero_any.mono ?_; rintro e w1 ⟨rfl, hb⟩; rw [HZ.out]; have hb' := (bel0 w _).trans (hb.mono (by simp)); clear hb; go_wp2; go_ret; exact ⟨by rw [HV.out]; rfl, hb'⟩
  · have HZ := Lib.hid (show decide (n = 0) = false by simp [h0])
    cases b
    · have HV := Lib.hid (show cmp (sgn false n) 0 = 1 by unfold cmp sgn; simp [h0]); clear h0; have HW := Lib.hid (wd_parts false n); rw [HW.out]; go_enter Tryz.func90, Tryz.ntmps90
      go_wp2_with fail
      rw [← HW.out]; refine isZero_any.mono ?_; rintro e w1 ⟨rfl, hb⟩; rw [HZ.out]; have hb' := (bel0 w _).trans (hb.mono (by simp)); have k1 := (Bk.new w 119 #[.bool false, .int .u64 (hi n : Nat), .int .u64 (lo n : Nat)]).below hb (by simp); have c0 := k1.cell 0; clear hb k1; go_wp2; go_ret; exact ⟨by rw [HV.out]; rfl, hb'⟩
    · have HV := Lib.hid (show cmp (sgn true n) 0 = -1 by unfold cmp sgn; simp; omega); clear h0; have HW := Lib.hid (wd_parts true n); rw [HW.out]; go_enter Tryz.func90, Tryz.ntmps90
      go_wp2_with fail
      rw [← HW.out]; refine isZero_any.mono ?_; rintro e w1 ⟨rfl, hb⟩; rw [HZ.out]; have hb' := (bel0 w _).trans (hb.mono (by simp)); have k1 := (Bk.new w 119 #[.bool true, .int .u64 (hi n : Nat), .int .u64 (lo n : Nat)]).below hb (by simp); have c0 := k1.cell 0; clear hb k1; go_wp2; go_ret; exact ⟨by rw [HV.out]; rfl, hb'⟩
theorem hl_mul {n k : Nat} (h : n * k < 340282366920938463463374607431768211456) :
    hi (n * k) = hi n * k + lo n * k / 18446744073709551616 ∧ lo (n * k) = lo n * k % 18446744073709551616 ∧ hi n * k + lo n * k / 18446744073709551616 < 18446744073709551616 := by
  have e : n * k = hi n * k * 18446744073709551616 + lo n * k := by
    conv => lhs; rw [← hi_lo n]
    rw [Nat.add_mul, Nat.mul_right_comm]
  have h1 : hi (n * k) = hi n * k + lo n * k / 18446744073709551616 := by
    show n * k / 18446744073709551616 = _
    omega
  refine ⟨h1, ?_, by rw [← h1]; exact hi_lt h⟩
  show n * k % 18446744073709551616 = _
  omega
theorem times_any {w : World} {b : Bool} {n k : Nat} (hk : k < 18446744073709551616) (h : n * k < 340282366920938463463374607431768211456) :
    Calls Tryz.prog 95 #[wd b n, .int .u64 k] w fun e w' => e = .returned (wd b (n * k)) ∧ Below w.heap.size w w' := by
  obtain ⟨h1, h2, h3⟩ := hl_mul h; have HM := Lib.hid (fun w => Tryz.bits_Mul64 (lo n) k (lo_lt n) hk w); generalize lo n * k / 18446744073709551616 = u at *; generalize lo n * k % 18446744073709551616 = v at *
  have HV := Lib.hid (show wd b (n * k) = .agg #[.bool b, .int .u64 (((hi n : Nat) : Int) * (k : Int) + (u : Int)), .int .u64 (v : Int)] by
    unfold wd; rw [h1, h2, Int.natCast_add, Int.natCast_mul])
  have h3' : ((hi n : Nat) : Int) * (k : Int) + (u : Int) < 18446744073709551616 := by rw [← Int.natCast_mul, ← Int.natCast_add]; omega
  have h4' : 0 ≤ ((hi n : Nat) : Int) * (k : Int) := Int.mul_nonneg (by omega) (by omega); clear h1 h2 h3 h hk; rw [wd_parts b n]; go_enter Tryz.func95, Tryz.ntmps95
  go_wp2_with fail
  refine (HM.out _).mono ?_; rintro e w1 ⟨rfl, rfl⟩; go_wp2; refine bodyPost_ret (v := .agg #[.bool b, .int .u64 (((hi n : Nat) : Int) * (k : Int) + (u : Int)), .int .u64 (v : Int)]) (by simp [results, Tryz.results95, go_sem]) rfl ⟨by rw [HV.out], bel1 _ _ _⟩
theorem hl_add (m n : Nat) (h : m + n < 340282366920938463463374607431768211456) :
    lo (m + n) = (lo m + lo n + 0) % 18446744073709551616 ∧ hi (m + n) = (hi m + hi n + (lo m + lo n + 0) / 18446744073709551616) % 18446744073709551616 ∧ (lo m + lo n + 0) / 18446744073709551616 ≤ 1 := by
  unfold hi lo; omega
theorem hl_sub (m n : Nat) (h : n ≤ m) (hm : m < 340282366920938463463374607431768211456) :
    lo (m - n) = (lo m + 18446744073709551616 - lo n - 0) % 18446744073709551616 ∧ hi (m - n) = (hi m + 18446744073709551616 - hi n - (if lo m < lo n + 0 then 1 else 0)) % 18446744073709551616 ∧ (if lo m < lo n + 0 then 1 else 0) ≤ 1 := by
  unfold hi lo
  split <;> omega
set_option maxRecDepth 100000 in
theorem add_any {w : World} {a b : Bool} {m n : Nat} (h : m + n < 340282366920938463463374607431768211456) :
    Calls Tryz.prog 91 #[wd a m, wd b n] w fun e w' => e = .returned (wd (adb a b m n) (adn a b m n)) ∧ Below w.heap.size w w' := by
  by_cases hab : a = b
  · subst hab; obtain ⟨h1, h2, h3⟩ := hl_add m n h; have HA : Hid (∀ w, (callFunc 164 #[.int .u64 (lo m : Nat), .int .u64 (lo n : Nat), .int .u64 0]).run Tryz.prog w = .ok (.value (.tuple #[.int .u64 (((lo m + lo n + 0) % 18446744073709551616 : Nat) : Int), .int .u64 (((lo m + lo n + 0) / 18446744073709551616 : Nat) : Int)])) w) := Lib.hid (fun w => add64_run (lo m) (lo n) 0 (by omega) w); generalize (lo m + lo n + 0) / 18446744073709551616 = q at *; generalize (lo m + lo n + 0) % 18446744073709551616 = r at *; have HB := Lib.hid (fun w => add64_run (hi m) (hi n) q h3 w); generalize (hi m + hi n + q) / 18446744073709551616 = q' at *; generalize (hi m + hi n + q) % 18446744073709551616 = r' at *
    have HV := Lib.hid (show wd (adb a a m n) (adn a a m n) = .agg #[.bool a, .int .u64 (r' : Int), .int .u64 (r : Int)] by
      unfold wd adb adn; rw [if_pos rfl, if_pos rfl, h1, h2])
    clear h1 h2 h3 h; rw [wd_parts a m, wd_parts a n]; go_enter Tryz.func91, Tryz.ntmps91
    go_wp2_with (first | (rw [HA.out]) | (rw [HB.out]))
    refine bodyPost_ret (v := .agg #[.bool a, .int .u64 (r' : Int), .int .u64 (r : Int)]) (by simp [results, Tryz.results91, go_sem]) rfl ⟨by rw [HV.out], bel2 _ _ _ _⟩
  · have hne : (a == b) = false := by simpa using hab
    by_cases hlt : m < n
    · obtain ⟨h1, h2, h3⟩ := hl_sub n m (by omega) (by omega); have HA : Hid (∀ w, (callFunc 166 #[.int .u64 (lo n : Nat), .int .u64 (lo m : Nat), .int .u64 0]).run Tryz.prog w = .ok (.value (.tuple #[.int .u64 (((lo n + 18446744073709551616 - lo m - 0) % 18446744073709551616 : Nat) : Int), .int .u64 ((if lo n < lo m + 0 then 1 else 0 : Nat) : Int)])) w) := Lib.hid (fun w => sub64_run (lo n) (lo m) 0 (by omega) w); generalize (lo n + 18446744073709551616 - lo m - 0) % 18446744073709551616 = r at *; generalize (if lo n < lo m + 0 then 1 else 0) = q at *; have HB := Lib.hid (fun w => sub64_run (hi n) (hi m) q h3 w); generalize (hi n + 18446744073709551616 - hi m - q) % 18446744073709551616 = r' at *; generalize (if hi n < hi m + q then 1 else 0) = q' at *
      have HV := Lib.hid (show wd (adb a b m n) (adn a b m n) = .agg #[.bool b, .int .u64 (r' : Int), .int .u64 (r : Int)] by
        rw [wd_parts]; unfold adb adn; rw [if_neg hab, if_neg hab, if_pos hlt, if_pos hlt, h1, h2])
      have HS := Lib.hid (show decide (m < n) = true by simp [hlt]); clear h1 h2 h3 h hlt hab; rw [wd_parts a m, wd_parts b n]; go_enter Tryz.func91, Tryz.ntmps91
      go_wp2_with fail
      refine (smaller_any (a := a) (b := b) (m := m) (n := n)).mono ?_; rintro e w1 ⟨rfl, hb⟩; rw [HS.out]; obtain ⟨k1, k2, k3, hb', -⟩ := bx3 hb; clear hb; have c10 := k1.cell 0; have c11 := k1.cell 1; have c12 := k1.cell 2; have c20 := k2.cell 0; have c21 := k2.cell 1; have c22 := k2.cell 2; have z10 := k1.frozen 0; have z11 := k1.frozen 1; have z12 := k1.frozen 2; have z20 := k2.frozen 0; have z21 := k2.frozen 1; have z22 := k2.frozen 2; have z30 := k3.frozen 0; have z31 := k3.frozen 1; have z32 := k3.frozen 2; have c30 := k3.cell 0; have c31 := k3.cell 1; have c32 := k3.cell 2; clear k1 k2 k3
      go_wp2_with (first | (rw [HA.out]) | (rw [HB.out]))
      refine bodyPost_ret (v := .agg #[.bool b, .int .u64 (r' : Int), .int .u64 (r : Int)]) (by simp [results, Tryz.results91, go_sem, c30, c31, c32]) rfl ⟨by rw [HV.out], (((((((((hb'.setCell (by simp <;> omega) _).setCell (by simp <;> omega) _).setCell (by simp <;> omega) _).setCell (by simp <;> omega) _).setCell (by simp <;> omega) _).setCell (by simp <;> omega) _).setCell (by simp <;> omega) _).setCell (by simp <;> omega) _).setCell (by simp <;> omega) _)⟩
    · obtain ⟨h1, h2, h3⟩ := hl_sub m n (by omega) (by omega); have HA : Hid (∀ w, (callFunc 166 #[.int .u64 (lo m : Nat), .int .u64 (lo n : Nat), .int .u64 0]).run Tryz.prog w = .ok (.value (.tuple #[.int .u64 (((lo m + 18446744073709551616 - lo n - 0) % 18446744073709551616 : Nat) : Int), .int .u64 ((if lo m < lo n + 0 then 1 else 0 : Nat) : Int)])) w) := Lib.hid (fun w => sub64_run (lo m) (lo n) 0 (by omega) w); generalize (lo m + 18446744073709551616 - lo n - 0) % 18446744073709551616 = r at *; generalize (if lo m < lo n + 0 then 1 else 0) = q at *; have HB := Lib.hid (fun w => sub64_run (hi m) (hi n) q h3 w); generalize (hi m + 18446744073709551616 - hi n - q) % 18446744073709551616 = r' at *; generalize (if hi m < hi n + q then 1 else 0) = q' at *
      have HV := Lib.hid (show wd (adb a b m n) (adn a b m n) = .agg #[.bool a, .int .u64 (r' : Int), .int .u64 (r : Int)] by
        rw [wd_parts]; unfold adb adn; rw [if_neg hab, if_neg hab, if_neg hlt, if_neg hlt, h1, h2])
      have HS := Lib.hid (show decide (m < n) = false by simp; omega); clear h1 h2 h3 h hlt hab; rw [wd_parts a m, wd_parts b n]; go_enter Tryz.func91, Tryz.ntmps91
      go_wp2_with fail
      refine (smaller_any (a := a) (b := b) (m := m) (n := n)).mono ?_; rintro e w1 ⟨rfl, hb⟩; rw [HS.out]; obtain ⟨k1, k2, k3, hb', -⟩ := bx3 hb; clear hb; have c10 := k1.cell 0; have c11 := k1.cell 1; have c12 := k1.cell 2; have c20 := k2.cell 0; have c21 := k2.cell 1; have c22 := k2.cell 2; have z30 := k3.frozen 0; have z31 := k3.frozen 1; have z32 := k3.frozen 2; have c30 := k3.cell 0; have c31 := k3.cell 1; have c32 := k3.cell 2; clear k1 k2 k3
      go_wp2_with (first | (rw [HA.out]) | (rw [HB.out]))
      refine bodyPost_ret (v := .agg #[.bool a, .int .u64 (r' : Int), .int .u64 (r : Int)]) (by simp [results, Tryz.results91, go_sem, c30, c31, c32]) rfl ⟨by rw [HV.out], (((hb'.setCell (by simp <;> omega) _).setCell (by simp <;> omega) _).setCell (by simp <;> omega) _)⟩
theorem grow_any {w : World} {b : Bool} {n : Nat} (h : n + 1 < 340282366920938463463374607431768211456) :
    Calls Tryz.prog 97 #[wd b n] w fun e w' => e = .returned (wd b (n + 1)) ∧ Below w.heap.size w w' := by
  have HV := Lib.hid (show wd (adb b b n 1) (adn b b n 1) = wd b (n + 1) by unfold adb adn; rw [if_pos rfl, if_pos rfl])
  have HA : Hid (∀ w, Calls Tryz.prog 91 #[.agg #[.bool b, .int .u64 (hi n : Nat), .int .u64 (lo n : Nat)], .agg #[.bool b, .int .u64 0, .int .u64 1]] w fun e w' => e = .returned (.agg #[.bool b, .int .u64 (hi (n + 1) : Nat), .int .u64 (lo (n + 1) : Nat)]) ∧ Below w.heap.size w w') := Lib.hid (fun w => by
    have := add_any (w := w) (a := b) (b := b) (m := n) (n := 1) h; rw [HV.out] at this
    exact this)
  rw [wd_parts b n, wd_parts b (n + 1)]; generalize hi (n + 1) = p at *; generalize lo (n + 1) = q at *; clear HV h; go_enter Tryz.func97, Tryz.ntmps97
  go_wp2_with fail
  refine (HA.out _).mono ?_; rintro e w1 ⟨rfl, hb⟩; obtain ⟨k1, k2, hb', -⟩ := bx2 hb; clear hb; have c20 := k2.cell 0; have c21 := k2.cell 1; have c22 := k2.cell 2; have z20 := k2.frozen 0; have z21 := k2.frozen 1; have z22 := k2.frozen 2; clear k1 k2; go_wp2; refine bodyPost_ret (v := .agg #[.bool b, .int .u64 (p : Int), .int .u64 (q : Int)]) (by simp [results, Tryz.results97, go_sem, c20, c21, c22]) rfl ⟨rfl, (((hb'.setCell (by simp <;> omega) _).setCell (by simp <;> omega) _).setCell (by simp <;> omega) _)⟩
end Go.Proofs.YtngkolcpbgibcaaGreatDoor
