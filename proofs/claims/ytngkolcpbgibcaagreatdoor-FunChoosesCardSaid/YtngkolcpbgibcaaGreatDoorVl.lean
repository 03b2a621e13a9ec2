/- Texts in order: by runes and by bytes they stand alike, as long as they are valid. No program; no condition but that. -/
/- Bytes, numbers of two bytes, bytes as a string. No condition. -/
/- Numbers as rows of digits, the lowest first: what they are worth, and when two are one. No program; no condition. -/
/- Decimals in words: what dec.Text and the reference's DecText write, as lists of bytes. No program; no condition. -/
/- Words as decimals: what dec.Parse and the reference's ParseDec tell, as functions of a list of bytes, and that both tell the same. No program; no condition. -/
/- Values, plainly: their five forms, their order. No program; no condition but the forms' own. -/
import Derived.Test.YtngkolcpbgibcaaGreatDoorJoin
import GoSem.Op.String
import Derived.Test.YtngkolcpbgibcaaGreatDoorProg
import Derived.Laws.BitsAllLaws
import Derived.Laws.BitsLemmas
import Derived.Lib.ItoaNum
import Derived.Test.YtngkolcpbgibcaaGreatDoorWide
import Derived.Lib.Bytealg
set_option linter.unusedVariables false
set_option linter.unusedSimpArgs false
namespace Go.Proofs.YtngkolcpbgibcaaGreatDoor
open Go.Lib Go.Op
def cmpR : List Int → List Int → Int
  | [], [] => 0
  | [], _ :: _ => -1
  | _ :: _, [] => 1
  | a :: r, b :: s => if a < b then -1 else if b < a then 1 else cmpR r s
theorem cmpR_eq {a b : Int} {r s : List Int} (h : a = b) : cmpR (a :: r) (b :: s) = cmpR r s := by rw [cmpR, if_neg (by omega), if_neg (by omega)]
end Go.Proofs.YtngkolcpbgibcaaGreatDoor
namespace Go.Proofs.YtngkolcpbgibcaaGreatDoor
open Go.RowKit
def by8 (n : Int) : UInt8 := UInt8.ofNat (n % 256).toNat
def b2 (n : Int) : List UInt8 := [by8 n, by8 (n / 256)]
end Go.Proofs.YtngkolcpbgibcaaGreatDoor
namespace Go.Proofs.YtngkolcpbgibcaaGreatDoor
def dval : List Nat → Nat
  | [] => 0
  | d :: r => d + 10 * dval r
def Digs (l : List Nat) : Prop := ∀ d ∈ l, d < 10
def Neat (l : List Nat) : Prop := ∀ d, l.getLast? = some d → d ≠ 0
theorem dval_append (a b : List Nat) : dval (a ++ b) = dval a + 10 ^ a.length * dval b := by
  induction a with
  | nil => simp [dval]
  | cons x a ih =>
    simp only [List.cons_append, dval, ih, List.length_cons, Nat.pow_succ]; rw [Nat.mul_add, Nat.add_assoc]
    congr 2
    rw [← Nat.mul_assoc, Nat.mul_comm 10]
theorem dval_lt {l : List Nat} (h : Digs l) : dval l < 10 ^ l.length := by
  induction l with
  | nil => simp [dval]
  | cons x l ih =>
    have h1 := h x (List.mem_cons_self ..); have h2 := ih fun d hd => h d (List.mem_cons_of_mem _ hd); simp only [dval, List.length_cons, Nat.pow_succ]; omega
theorem Digs.tail {x : Nat} {l : List Nat} (h : Digs (x :: l)) : Digs l := fun d hd => h d (List.mem_cons_of_mem _ hd)
theorem Digs.append {a b : List Nat} (ha : Digs a) (hb : Digs b) : Digs (a ++ b) := fun d hd => by
  rcases List.mem_append.1 hd with h | h
  · exact ha d h
  · exact hb d h
theorem Digs.take {l : List Nat} (h : Digs l) (k : Nat) : Digs (l.take k) := fun d hd => h d (List.mem_of_mem_take hd)
theorem Digs.drop {l : List Nat} (h : Digs l) (k : Nat) : Digs (l.drop k) := fun d hd => h d (List.mem_of_mem_drop hd)
theorem Neat.tail {x : Nat} {l : List Nat} (h : Neat (x :: l)) : Neat l := fun d hd => h d (by
  cases l with
  | nil => simp at hd
  | cons y l => rw [List.getLast?_cons_cons]; exact hd)
theorem Neat.nil : Neat [] := fun d hd => by simp at hd
theorem Neat.ge {l : List Nat} (h : Neat l) (hne : l ≠ []) : 10 ^ (l.length - 1) ≤ dval l := by
  induction l with
  | nil => exact absurd rfl hne
  | cons x l ih =>
    cases l with
    | nil =>
      have := h x (by simp); simp [dval]; omega
    | cons y l =>
      have h2 := ih h.tail (by simp); simp only [dval, List.length_cons, Nat.add_sub_cancel] at h2 ⊢; rw [Nat.pow_succ]; omega
theorem dval_snoc (l : List Nat) (d : Nat) : dval (l ++ [d]) = dval l + 10 ^ l.length * d := by rw [dval_append]; simp [dval]
def digs (n : Nat) : List Nat := if h : n = 0 then [] else n % 10 :: digs (n / 10)
termination_by n
decreasing_by omega
theorem digs_zero : digs 0 = [] := by rw [digs]; simp
theorem digs_pos {n : Nat} (h : 0 < n) : digs n = n % 10 :: digs (n / 10) := by rw [digs, dif_neg (by omega)]
theorem digs_spec : ∀ (m n : Nat), n ≤ m → dval (digs n) = n ∧ Digs (digs n) ∧ Neat (digs n)
  | 0, n, h => by
    obtain rfl : n = 0 := by omega
    rw [digs_zero]; exact ⟨rfl, by simp [Digs], Neat.nil⟩
  | m + 1, n, h => by
    rcases Nat.eq_zero_or_pos n with rfl | hn
    · rw [digs_zero]; exact ⟨rfl, by simp [Digs], Neat.nil⟩
    · obtain ⟨h1, h2, h3⟩ := digs_spec m (n / 10) (by omega); rw [digs_pos hn]; refine ⟨by simp only [dval, h1]; omega, fun d hd => ?_, fun d hd => ?_⟩
      · rcases List.mem_cons.1 hd with rfl | hd
        · omega
        · exact h2 d hd
      · cases hc : digs (n / 10) with
        | nil =>
          rw [hc] at hd h1; simp at hd; subst hd; simp [dval] at h1; omega
        | cons y r =>
          rw [hc, List.getLast?_cons_cons] at hd; exact h3 d (by rw [hc]; exact hd)
theorem dval_digs (n : Nat) : dval (digs n) = n := (digs_spec n n (Nat.le_refl _)).1
theorem digs_digs (n : Nat) : Digs (digs n) := (digs_spec n n (Nat.le_refl _)).2.1
theorem neat_digs (n : Nat) : Neat (digs n) := (digs_spec n n (Nat.le_refl _)).2.2
theorem digs_len {n k : Nat} : (digs n).length ≤ k ↔ n < 10 ^ k := by
  constructor
  · intro h; have h1 := dval_lt (digs_digs n); rw [dval_digs] at h1; exact Nat.lt_of_lt_of_le h1 (Nat.pow_le_pow_right (by omega) h)
  · intro h
    rcases Nat.eq_zero_or_pos n with rfl | hn
    · rw [digs_zero]; exact Nat.zero_le _
    · have hne : digs n ≠ [] := by rw [digs_pos hn]; simp
      have h1 := (neat_digs n).ge hne; rw [dval_digs] at h1
      have h2 : (digs n).length - 1 < k := by
        rcases Nat.lt_or_ge ((digs n).length - 1) k with h3 | h3
        · exact h3
        · have := Nat.pow_le_pow_right (n := 10) (by omega) h3; omega
      omega
end Go.Proofs.YtngkolcpbgibcaaGreatDoor
namespace Go.Proofs.YtngkolcpbgibcaaGreatDoor
def bt (d : Nat) : UInt8 := UInt8.ofNat (48 + d)
theorem decDigits_digs : ∀ (k n : Nat), n ≤ k → 0 < n → Lib.decDigits n = ((digs n).map bt).reverse
  | 0, n, h, h0 => by omega
  | k + 1, n, h, h0 => by
    rw [Lib.decDigits, digs_pos h0]
    by_cases hn : n < 10
    · rw [dif_pos hn, Nat.mod_eq_of_lt hn, Nat.div_eq_of_lt hn, digs_zero]; rfl
    · rw [dif_neg hn, decDigits_digs k (n / 10) (by omega) (by omega)]; simp [bt]
theorem decDigits_0 : Lib.decDigits 0 = [48] := by rw [Lib.decDigits]; rfl
def padded (n s : Nat) : List Nat := digs n ++ List.replicate (s + 1 - (digs n).length) 0
theorem padded_len (n s : Nat) : s + 1 ≤ (padded n s).length := by simp [padded]; omega
def rb (l : List Nat) (s : Nat) : Nat → List UInt8
  | 0 => []
  | i + 1 => bt (l.getD i 0) :: ((if i = s ∧ 0 < i then [46] else []) ++ rb l s i)
def body (l : List Nat) (s : Nat) : List UInt8 := ((l.drop s).map bt).reverse ++ (if 0 < s then [46] else []) ++ ((l.take s).map bt).reverse
def decTx (m : Int) (s : Nat) : List UInt8 := (if m < 0 then [45] else []) ++ body (padded m.natAbs s) s
theorem prog_pad (n s : Nat) : List.replicate (s + 1 - (Lib.decDigits n).length) 48 ++ Lib.decDigits n = ((padded n s).map bt).reverse := by
  by_cases h : n = 0
  · subst h; rw [decDigits_0, padded, digs_zero]; simp [bt, ← List.replicate_succ']
  · rw [decDigits_digs n n (Nat.le_refl _) (by omega), padded]; simp [bt]
theorem prog_point {l : List Nat} {s : Nat} (h : s + 1 ≤ l.length) (h0 : 0 < s) :
    (((l.map bt).reverse).take (l.length - s) ++ [46] ++ ((l.map bt).reverse).drop (l.length - s)) = body l s := by
  unfold body; rw [if_pos h0, List.take_reverse, List.drop_reverse]; simp [List.length_map, show l.length - (l.length - s) = s from by omega]
theorem prog_whole {l : List Nat} : (l.map bt).reverse = body l 0 := by simp [body]
end Go.Proofs.YtngkolcpbgibcaaGreatDoor
namespace Go.Proofs.YtngkolcpbgibcaaGreatDoor
def dq (c : UInt8) : Bool := 48 ≤ c.toNat && c.toNat ≤ 57
def qv (c : UInt8) : Nat := c.toNat - 48
def rv (l : List UInt8) : List Nat := (l.map qv).reverse
def gqF (n : Nat) (c : UInt8) : Nat := if dq c then n * 10 + qv c else n
def gq (l : List UInt8) : Nat := l.foldl gqF 0
/-! ### The program's way -/
def digsB (l : List UInt8) : Bool := l.all dq && !l.isEmpty
def wholeB (l : List UInt8) : Bool := digsB l && (l == [48] || l.head? != some 48)
def isNeg (l : List UInt8) : Bool := l.head? == some 45
def numE (b : Bool) (n pl : Nat) (z : Bool) : DR := if n ≤ most b then (if 9 < pl ∨ z = true then ⟨0, 0, 1⟩ else ⟨sgn b n, pl, 0⟩) else ⟨0, 0, 8⟩
def parseP (l : List UInt8) (b : Bool) (w t : List UInt8) (p : Bool) : DR :=
  if l = [45, 48] ∨ wholeB w = false ∨ p = true ∧ digsB t = false then ⟨0, 0, 2⟩ else numE b (gq (w ++ t)) t.length (t.getLast? == some 48)
/-! ### The reference's way -/
def rstep (b k : Nat) (c : UInt8) (dot : Option Nat) (D : List Nat) : Option (Option Nat × List Nat) :=
  if c = 46 ∧ dot = none ∧ b < k then some (some k, D) else if dq c then some (dot, qv c :: D) else none
def rrun (b : Nat) : Nat → List UInt8 → Option Nat → List Nat → Option (Option Nat × List Nat)
  | _, [], dot, D => some (dot, D)
  | k, c :: l, dot, D => match rstep b k c dot D with
    | none => none
    | some x => rrun b (k + 1) l x.1 x.2
def refN (b : Bool) (n pl : Nat) (z : Bool) : DR :=
  if n = 0 ∧ b = true ∧ pl = 0 then ⟨0, 0, 2⟩ else if n ≤ most (b && !(n == 0)) then (if 9 < pl ∨ 0 < pl ∧ z = true then ⟨0, 0, 1⟩ else ⟨sgn (b && !(n == 0)) n, pl, 0⟩) else ⟨0, 0, 8⟩
def refM (l : List UInt8) (b : Bool) (k : Nat) : DR :=
  match rrun k k (l.drop k) none [] with
  | none => ⟨0, 0, 2⟩
  | some (none, D) => if l.length - k = 0 ∨ l.getD k 0 = 48 ∧ 1 < l.length - k then ⟨0, 0, 2⟩ else refN b (dval D) 0 (l.getLast? == some 48)
  | some (some d, D) => if d - k = 0 ∨ d + 1 = l.length ∨ l.getD k 0 = 48 ∧ 1 < d - k then ⟨0, 0, 2⟩ else refN b (dval D) (l.length - d - 1) (l.getLast? == some 48)
theorem dq_46 : dq 46 = false := by decide
theorem qv_lt {c : UInt8} (h : dq c = true) : qv c < 10 := by
  simp only [dq, Bool.and_eq_true, decide_eq_true_eq] at h; unfold qv; omega
theorem rv_cons (c : UInt8) (l : List UInt8) : rv (c :: l) = rv l ++ [qv c] := by simp [rv]
theorem rv_append (a l : List UInt8) : rv (a ++ l) = rv l ++ rv a := by simp [rv]
theorem rv_len (l : List UInt8) : (rv l).length = l.length := by simp [rv]
theorem rrun_digits (b : Nat) : ∀ (l : List UInt8) (k : Nat) (dot : Option Nat) (D : List Nat), (46 ∉ l ∨ dot ≠ none ∨ k ≤ b ∧ l.all dq = true) →
    rrun b k l dot D = if l.all dq then some (dot, rv l ++ D) else none
  | [], _, dot, D, _ => by simp [rrun, rv]
  | c :: l, k, dot, D, h => by
    have hs : ¬ (c = 46 ∧ dot = none ∧ b < k) := by
      rintro ⟨rfl, h1, h2⟩
      rcases h with h | h | h
      · exact h (List.mem_cons_self ..)
      · exact h h1
      · omega
    have hl : 46 ∉ l ∨ dot ≠ none ∨ k + 1 ≤ b ∧ l.all dq = true ∨ l.all dq = true := by
      rcases h with h | h | h
      · exact .inl fun h' => h (List.mem_cons_of_mem _ h')
      · exact .inr (.inl h)
      · simp only [List.all_cons, Bool.and_eq_true] at h; exact .inr (.inr (.inr h.2.2))
    have hl' : 46 ∉ l ∨ dot ≠ none ∨ k + 1 ≤ b ∧ l.all dq = true := by
      rcases hl with h | h | h | h
      · exact .inl h
      · exact .inr (.inl h)
      · exact .inr (.inr h)
      · exact .inl fun h' => by have := List.all_eq_true.1 h _ h'; rw [dq_46] at this; cases this
    rw [rrun, rstep, if_neg hs]
    cases hc : dq c
    · simp [hc]
    · simp only [if_true, List.all_cons, hc, Bool.true_and]; rw [rrun_digits b l (k + 1) dot _ hl', rv_cons]; simp
theorem rrun_point (b : Nat) (t : List UInt8) : ∀ (w : List UInt8) (k : Nat) (D : List Nat), 46 ∉ w → b ≤ k →
    rrun b k (w ++ 46 :: t) none D = if w.all dq = true ∧ b < k + w.length ∧ t.all dq = true then some (some (k + w.length), rv t ++ rv w ++ D) else none
  | [], k, D, _, hk => by
    rw [List.nil_append, rrun, rstep]
    by_cases h : b < k
    · rw [if_pos ⟨rfl, rfl, h⟩]; simp only [rrun_digits b t (k + 1) (some k) D (.inr (.inl (by simp)))]; simp [h, rv]
    · rw [if_neg (by omega), dq_46]; simp [h]
  | c :: w, k, D, hw, hk => by
    have hc46 : c ≠ 46 := fun h => hw (h ▸ List.mem_cons_self ..); rw [List.cons_append, rrun, rstep, if_neg (fun h => hc46 h.1)]
    cases hc : dq c
    · simp [hc]
    · simp only [if_true]; rw [rrun_point b t w (k + 1) _ (fun h => hw (List.mem_cons_of_mem _ h)) (by omega)]; have e : k + 1 + w.length = k + (c :: w).length := by simp; omega
      have e2 : b < k + (c :: w).length := by simp; omega
      rw [e, rv_cons]; simp [hc]
theorem gq_fold : ∀ (l : List UInt8) (n : Nat), l.all dq = true → l.foldl gqF n = n * 10 ^ l.length + dval (rv l)
  | [], n, _ => by simp [rv, dval]
  | c :: l, n, h => by
    simp only [List.all_cons, Bool.and_eq_true] at h; rw [List.foldl_cons, gq_fold l _ h.2, gqF, if_pos h.1, rv_cons, dval_snoc, rv_len, List.length_cons, Nat.pow_succ, Nat.add_mul, Nat.mul_assoc, Nat.mul_comm 10 (10 ^ l.length), Nat.mul_comm (qv c) (10 ^ l.length)]; omega
theorem gq_digits {l : List UInt8} (h : l.all dq = true) : gq l = dval (rv l) := by
  have := gq_fold l 0 h
  simpa [gq] using this
theorem gq_point (w t : List UInt8) : gq (w ++ 46 :: t) = gq (w ++ t) := by
  unfold gq; rw [List.foldl_append, List.foldl_append, List.foldl_cons]
  congr 1
theorem dval_zero_rv : ∀ {l : List UInt8}, l.all dq = true → dval (rv l) = 0 → ∀ c ∈ l, c = 48
  | [], _, _, c, hc => by simp at hc
  | c :: l, h, h0, d, hd => by
    simp only [List.all_cons, Bool.and_eq_true] at h; rw [rv_cons, dval_snoc] at h0; have hp : 0 < 10 ^ (rv l).length := Nat.pow_pos (by decide); have h1 : dval (rv l) = 0 := by omega
    have h2 : qv c = 0 := by
      rcases Nat.eq_zero_or_pos (qv c) with h2 | h2
      · exact h2
      · have := Nat.mul_pos hp h2; omega
    rcases List.mem_cons.1 hd with rfl | hd
    · have h3 := h.1; simp only [dq, Bool.and_eq_true, decide_eq_true_eq] at h3; unfold qv at h2; exact UInt8.toNat_inj.1 (by show d.toNat = 48; omega)
    · exact dval_zero_rv h.2 h1 d hd
theorem refN_numE {b z z' : Bool} {n pl : Nat} (h : ¬ (n = 0 ∧ b = true ∧ pl = 0)) (hz : z' = (decide (0 < pl) && z)) : refN b n pl z = numE b n pl z' := by
  subst hz; unfold refN numE; rw [if_neg h]
  have e1 : (n ≤ most (b && !(n == 0))) = (n ≤ most b) := by
    by_cases h0 : n = 0
    · subst h0; simp
    · have : (n == 0) = false := by simpa using h0
      rw [this, Bool.not_false, Bool.and_true]
  have e2 : sgn (b && !(n == 0)) n = sgn b n := by
    by_cases h0 : n = 0
    · subst h0
      cases b <;> simp [sgn]
    · have : (n == 0) = false := by simpa using h0
      rw [this, Bool.not_false, Bool.and_true]
  simp only [e1, e2, Bool.and_eq_true, decide_eq_true_eq]
theorem digsB_false {t : List UInt8} (h : t.all dq = true) : digsB t = false ↔ t = [] := by
  unfold digsB; rw [h, Bool.true_and]
  cases t <;> simp
theorem wholeB_false {w : List UInt8} (h : w.all dq = true) : wholeB w = false ↔ (w.length = 0 ∨ w.getD 0 0 = 48 ∧ 1 < w.length) := by
  cases w with
  | nil => simp [wholeB, digsB]
  | cons c w =>
    have : digsB (c :: w) = true := by simp [digsB, h]
    unfold wholeB; rw [this]
    cases w with
    | nil => simp
    | cons d w => simp
theorem whole_zero {w : List UInt8} (h : w.all dq = true) (hw : ¬ (w.length = 0 ∨ w.getD 0 0 = 48 ∧ 1 < w.length)) : dval (rv w) = 0 ↔ w = [48] := by
  constructor
  · intro h0; have hz := dval_zero_rv h h0
    cases w with
    | nil => simp at hw
    | cons c w =>
      have hc := hz c (List.mem_cons_self ..); subst hc
      cases w with
      | nil => rfl
      | cons d w => simp at hw
  · rintro rfl; rfl
def pre (b : Bool) : List UInt8 := if b then [45] else []
theorem ref_none {l r : List UInt8} {b : Bool} (hl : l = pre b ++ r) (hn : b = false → r.head? ≠ some 45) (h46 : 46 ∉ r) : refM l b (pre b).length = parseP l b r [] false := by
  have hlen : l.length - (pre b).length = r.length := by rw [hl]; simp
  have hget : l.getD (pre b).length 0 = r.getD 0 0 := by rw [hl, List.getD_eq_getElem?_getD, List.getElem?_append_right (Nat.le_refl _), Nat.sub_self, ← List.getD_eq_getElem?_getD]
  have hneg : l = [45, 48] ↔ b = true ∧ r = [48] := by
    subst hl
    cases b
    · simp only [pre, Bool.false_eq_true, if_false, List.nil_append, false_and, iff_false]; rintro rfl; exact hn rfl rfl
    · simp [pre]
  have hrun : rrun (pre b).length (pre b).length (l.drop (pre b).length) none [] = if r.all dq then some (none, rv r ++ []) else none := by
    rw [hl, List.drop_left]; exact rrun_digits _ r _ none [] (.inl h46)
  unfold refM parseP; rw [hrun]
  cases ha : r.all dq
  · have : wholeB r = false := by simp [wholeB, digsB, ha]
    simp [this]
  · simp only [if_true, List.append_nil, hlen, hget]
    by_cases hw : r.length = 0 ∨ r.getD 0 0 = 48 ∧ 1 < r.length
    · rw [if_pos hw, if_pos (.inr (.inl ((wholeB_false ha).2 hw)))]
    · have hw' : ¬ wholeB r = false := fun h => hw ((wholeB_false ha).1 h); rw [if_neg hw]
      by_cases h0 : b = true ∧ r = [48]
      · rw [if_pos (.inl (hneg.2 h0))]; unfold refN; rw [if_pos ⟨(whole_zero ha hw).2 h0.2, h0.1, rfl⟩]
      · have h0' : ¬ (l = [45, 48] ∨ wholeB r = false ∨ false = true ∧ digsB [] = false) := by
          rintro (h | h | h)
          · exact h0 (hneg.1 h)
          · exact hw' h
          · exact Bool.noConfusion h.1
        rw [if_neg h0', gq_digits ha]; refine refN_numE (fun h => h0 ⟨h.2.1, (whole_zero ha hw).1 h.1⟩) (by simp)
theorem ref_point {l w t : List UInt8} {b : Bool} (hl : l = pre b ++ (w ++ 46 :: t)) (h46 : 46 ∉ w) : refM l b (pre b).length = parseP l b w t true := by
  have hlen : l.length = (pre b).length + w.length + 1 + t.length := by rw [hl]; simp; omega
  have hneg : ¬ l = [45, 48] := by
    intro h; have : (46 : UInt8) ∈ l := by rw [hl]; simp
    rw [h] at this; revert this
    decide
  have hrun := rrun_point (pre b).length t w (pre b).length [] h46 (Nat.le_refl _); have hd : l.drop (pre b).length = w ++ 46 :: t := by rw [hl, List.drop_left]
  unfold refM parseP; rw [hd, hrun]
  by_cases hc : w.all dq = true ∧ (pre b).length < (pre b).length + w.length ∧ t.all dq = true
  · obtain ⟨hw, h1, ht⟩ := hc; have hw0 : w ≠ [] := by rintro rfl; simp at h1
    have hget : l.getD (pre b).length 0 = w.getD 0 0 := by
      rw [hl]
      cases w with
      | nil => exact absurd rfl hw0
      | cons c w => rw [List.getD_eq_getElem?_getD, List.getElem?_append_right (Nat.le_refl _), Nat.sub_self]; rfl
    have e1 : (pre b).length + w.length - (pre b).length = w.length := by omega
    have e2 : l.length - ((pre b).length + w.length) - 1 = t.length := by omega
    have e3 : (pre b).length + w.length + 1 = l.length ↔ t = [] := by rw [hlen, ← List.length_eq_zero_iff]; omega
    rw [if_pos ⟨hw, h1, ht⟩]; simp only [List.append_nil, hget, e1, e2]
    by_cases ht0 : t = []
    · rw [if_pos (.inr (.inl (e3.2 ht0))), if_pos (.inr (.inr ⟨trivial, (digsB_false ht).2 ht0⟩))]
    · by_cases hww : w.length = 0 ∨ w.getD 0 0 = 48 ∧ 1 < w.length
      · rw [if_pos (by rcases hww with h | h; exact .inl h; exact .inr (.inr h)), if_pos (.inr (.inl ((wholeB_false hw).2 hww)))]
      · have n1 : ¬ (w.length = 0 ∨ (pre b).length + w.length + 1 = l.length ∨ w.getD 0 0 = 48 ∧ 1 < w.length) := by
          rintro (h | h | h)
          · exact hww (.inl h)
          · exact ht0 (e3.1 h)
          · exact hww (.inr h)
        have n2 : ¬ (l = [45, 48] ∨ wholeB w = false ∨ True ∧ digsB t = false) := by
          rintro (h | h | h)
          · exact hneg h
          · exact hww ((wholeB_false hw).1 h)
          · exact ht0 ((digsB_false ht).1 h.2)
        have hpl : 0 < t.length := List.length_pos_iff.2 ht0
        have hlast : l.getLast? = t.getLast? := by
          rw [hl, ← List.append_assoc, List.getLast?_append, List.getLast?_cons]
          cases h : t.getLast? with
          | none => rw [List.getLast?_eq_none_iff] at h; exact absurd h ht0
          | some x => simp
        rw [if_neg n1, if_neg n2, gq_digits (by rw [List.all_append, hw, ht]; rfl), rv_append, hlast]; exact refN_numE (fun h => by omega) (by simp [hpl])
  · rw [if_neg hc]
    have : wholeB w = false ∨ true = true ∧ digsB t = false := by
      by_cases hw : w.all dq = true
      · by_cases ht : t.all dq = true
        · left
          have : w = [] := by
            rcases w with _ | ⟨c, w⟩
            · rfl
            · exact absurd ⟨hw, by simp, ht⟩ hc
          subst this; rfl
        · right
          refine ⟨rfl, ?_⟩; simp [digsB, ht]
      · left
        simp [wholeB, digsB, hw]
    rw [if_pos (.inr this)]
theorem point_cases : ∀ r : List UInt8, (46 ∉ r ∧ Lib.indexByte r 46 = -1) ∨ ∃ w t, r = w ++ 46 :: t ∧ 46 ∉ w ∧ Lib.indexByte r 46 = (w.length : Nat)
  | [] => .inl ⟨by simp, rfl⟩
  | c :: r => by
    by_cases hc : c = 46
    · subst hc; exact .inr ⟨[], r, rfl, by simp, by simp [Lib.indexByte]⟩
    · have hb : (c == 46) = false := by simpa using hc
      rcases point_cases r with ⟨h, hi⟩ | ⟨w, t, rfl, h, hi⟩
      · refine .inl ⟨?_, ?_⟩
        · intro h'
          rcases List.mem_cons.1 h' with h' | h'
          · exact hc h'.symm
          · exact h h'
        · rw [Lib.indexByte, hb, hi]; rfl
      · refine .inr ⟨c :: w, t, rfl, ?_, ?_⟩
        · intro h'
          rcases List.mem_cons.1 h' with h' | h'
          · exact hc h'.symm
          · exact h h'
        · rw [Lib.indexByte, hb, hi]; have : ((w.length : Nat) : Int) ≠ -1 := by omega
          simp only [Bool.false_eq_true, if_false, beq_iff_eq, this, List.length_cons]; omega
end Go.Proofs.YtngkolcpbgibcaaGreatDoor
namespace Go.Proofs.YtngkolcpbgibcaaGreatDoor
inductive VX where
  | blank
  | num (m : Int) (s : Nat)
  | str (t : List UInt8)
  | bool (b : Bool)
  | err (e : Int)
namespace VX
def kind : VX → Int
  | blank => 0
  | num .. => 1
  | str .. => 2
  | bool .. => 3
  | err .. => 4
end VX
def rk (b : Bool) : Int := if b then 1 else 0
def OkX : VX → Prop
  | .num m s => Gd m s
  | .str t => uE t = 0
  | .err e => e = 0 ∨ e = 7 ∨ e = 15 ∨ e = 23 ∨ e = 29 ∨ e = 36 ∨ e = 42
  | _ => True
def fillX : VX → VX → VX
  | .blank, .num .. => .num 0 0
  | .blank, .str .. => .str []
  | .blank, .bool .. => .bool false
  | a, _ => a
def cmpF : VX → VX → Int
  | .num m s, .num n t => cmp (val m s) (val n t)
  | .str a, .str b => cmpR (rns a) (rns b)
  | .bool a, .bool b => cmp (rk a) (rk b)
  | .err a, .err b => cmp a b
  | a, b => cmp a.kind b.kind
def cmpX (a b : VX) : Int := cmpF (fillX a b) (fillX b a)
end Go.Proofs.YtngkolcpbgibcaaGreatDoor
