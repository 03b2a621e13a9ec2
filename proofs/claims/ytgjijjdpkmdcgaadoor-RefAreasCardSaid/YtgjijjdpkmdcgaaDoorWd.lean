/- A cell in words, and back, plainly: letters, digits, a machine that reads them byte by byte. No condition; no model. -/
import Derived.Lib.ItoaNum
namespace Go.Proofs.YtgjijjdpkmdcgaaDoor
open Go.Lib

def isL (c : UInt8) : Bool := decide (65 ≤ c.toNat ∧ c.toNat ≤ 90)
def isD (c : UInt8) : Bool := decide (48 ≤ c.toNat ∧ c.toNat ≤ 57)
/-- A column's letters. -/
def colL (c : Nat) : List UInt8 := if c < 26 then [UInt8.ofNat (65 + c)] else [UInt8.ofNat (65 + (c / 26 - 1)), UInt8.ofNat (65 + c % 26)]
/-- A cell's words. -/
def wordL (r c : Nat) : List UInt8 := colL c ++ decDigits (r + 1)

/-- One byte more: the row, the column so far, not beyond their bounds and one. -/
def stp (r c : Nat) (x : UInt8) : Option (Nat × Nat) :=
  if isL x = true ∧ r = 0 then some (0, min (c * 26 + (x.toNat - 64)) 257)
  else if isD x = true ∧ 0 < c ∧ (0 < r ∨ x ≠ 48) then some (min (r * 10 + (x.toNat - 48)) 65537, c)
  else none
def mach : Nat × Nat → List UInt8 → Option (Nat × Nat)
  | s, [] => some s
  | s, x :: l => (stp s.1 s.2 x).bind fun s' => mach s' l

theorem snoc_ind {P : List UInt8 → Prop} (h0 : P []) (h1 : ∀ l x, P l → P (l ++ [x])) (l : List UInt8) : P l := by
  rw [← List.reverse_reverse l]
  induction l.reverse with
  | nil => exact h0
  | cons x m ih => rw [List.reverse_cons]; exact h1 _ _ ih
theorem mach_append (s : Nat × Nat) (l m : List UInt8) : mach s (l ++ m) = (mach s l).bind fun s' => mach s' m := by
  induction l generalizing s with
  | nil => rfl
  | cons x l ih =>
    simp only [List.cons_append, mach]
    cases stp s.1 s.2 x with
    | none => rfl
    | some s' => exact ih s'

/-- What is read: error, row, column. -/
def pE : Option (Nat × Nat) → Int
  | none => 2
  | some (r, c) => if r = 0 then 2 else if 65536 < r ∨ 256 < c then 12 else 0
def pR (o : Option (Nat × Nat)) : Int := if pE o = 0 then (match o with | none => 0 | some (r, _) => (r : Int) - 1) else 0
def pC (o : Option (Nat × Nat)) : Int := if pE o = 0 then (match o with | none => 0 | some (_, c) => (c : Int) - 1) else 0

theorem pE_none : pE none = 2 := rfl
theorem pR_no {o : Option (Nat × Nat)} (h : pE o ≠ 0) : pR o = 0 ∧ pC o = 0 := by
  unfold pR pC
  rw [if_neg h, if_neg h]
  exact ⟨rfl, rfl⟩
theorem pR_yes {r c : Nat} (h0 : r ≠ 0) (h : ¬ (65536 < r ∨ 256 < c)) : pE (some (r, c)) = 0 ∧ pR (some (r, c)) = (r : Int) - 1 ∧ pC (some (r, c)) = (c : Int) - 1 := by
  have h1 : pE (some (r, c)) = 0 := by simp only [pE]; rw [if_neg h0, if_neg h]
  exact ⟨h1, by unfold pR; rw [if_pos h1], by unfold pC; rw [if_pos h1]⟩
theorem pE_zero {c : Nat} : pE (some (0, c)) = 2 := rfl
theorem pE_far {r c : Nat} (h0 : r ≠ 0) (h : 65536 < r ∨ 256 < c) : pE (some (r, c)) = 12 := by simp only [pE]; rw [if_neg h0, if_pos h]

theorem dig_toNat {n : Nat} (h : n < 10) : (UInt8.ofNat (48 + n)).toNat = 48 + n := by
  rw [UInt8.toNat_ofNat']; omega
theorem let_toNat {n : Nat} (h : n < 26) : (UInt8.ofNat (65 + n)).toNat = 65 + n := by
  rw [UInt8.toNat_ofNat']; omega

theorem mach_dig (n : Nat) : ∀ c : Nat, 0 < c → 1 ≤ n → mach (0, c) (decDigits n) = some (min n 65537, c) := by
  induction n using Nat.strongRecOn with
  | _ n ih =>
    intro c hc hn
    by_cases h : n < 10
    · rw [decDigits_one h]
      simp only [mach]
      have e : stp 0 c (UInt8.ofNat (48 + n)) = some (min n 65537, c) := by
        unfold stp
        have hL : isL (UInt8.ofNat (48 + n)) = false := by unfold isL; rw [dig_toNat h]; simp; omega
        have hD : isD (UInt8.ofNat (48 + n)) = true := by unfold isD; rw [dig_toNat h]; simp; omega
        rw [if_neg (by rw [hL]; simp), if_pos ⟨hD, hc, .inr (fun e => by
          have := congrArg UInt8.toNat e
          rw [dig_toNat h] at this
          have h48 : (48 : UInt8).toNat = 48 := rfl
          omega)⟩, dig_toNat h]
        simp
      rw [e]
      rfl
    · rw [decDigits, dif_neg h, mach_append, ih (n / 10) (by omega) c hc (by omega)]
      simp only [Option.bind_some, mach]
      have h9 : n % 10 < 10 := by omega
      have e : stp (min (n / 10) 65537) c (UInt8.ofNat (48 + n % 10)) = some (min n 65537, c) := by
        unfold stp
        have hL : isL (UInt8.ofNat (48 + n % 10)) = false := by unfold isL; rw [dig_toNat h9]; simp; omega
        have hD : isD (UInt8.ofNat (48 + n % 10)) = true := by unfold isD; rw [dig_toNat h9]; simp; omega
        rw [if_neg (by rw [hL]; simp), if_pos ⟨hD, hc, .inl (by omega)⟩, dig_toNat h9]
        congr 2
        omega
      rw [e]
      rfl

theorem mach_col : ∀ c : Fin 256, mach (0, 0) (colL c.val) = some (0, c.val + 1) := by decide +kernel
/-- What is told of a cell is read as it was. -/
theorem mach_word (r c : Nat) (hr : r < 65536) (hc : c < 256) : mach (0, 0) (wordL r c) = some (r + 1, c + 1) := by
  unfold wordL
  rw [mach_append, mach_col ⟨c, hc⟩]
  simp only [Option.bind_some]
  rw [mach_dig (r + 1) (c + 1) (by omega) (by omega)]
  congr 2
  omega

def lets (c : Nat) : List UInt8 := if c = 0 then [] else colL (c - 1)
def digs (r : Nat) : List UInt8 := if r = 0 then [] else decDigits r
theorem lets_snoc : ∀ c : Fin 10, ∀ x : Fin 26, c.val * 26 + x.val + 1 ≤ 256 → lets c.val ++ [UInt8.ofNat (65 + x.val)] = lets (c.val * 26 + x.val + 1) := by decide +kernel
theorem digs_snoc (r d : Nat) (hd : d < 10) (h : 0 < r ∨ 0 < d) : digs r ++ [UInt8.ofNat (48 + d)] = digs (r * 10 + d) := by
  unfold digs
  rw [if_neg (show ¬ r * 10 + d = 0 by omega)]
  by_cases hr : r = 0
  · subst hr
    rw [if_pos rfl, Nat.zero_mul, Nat.zero_add, decDigits_one hd]
    rfl
  · rw [if_neg hr, decDigits.eq_def (r * 10 + d), dif_neg (by omega), show (r * 10 + d) / 10 = r by omega, show (r * 10 + d) % 10 = d by omega]

theorem stp_cases {r c : Nat} {x : UInt8} {s : Nat × Nat} (h : stp r c x = some s) :
    (isL x = true ∧ r = 0 ∧ s = (0, min (c * 26 + (x.toNat - 64)) 257)) ∨ (isD x = true ∧ 0 < c ∧ (0 < r ∨ x ≠ 48) ∧ s = (min (r * 10 + (x.toNat - 48)) 65537, c)) := by
  unfold stp at h
  split at h
  · rename_i h1
    injection h with h
    exact .inl ⟨h1.1, h1.2, h.symm⟩
  · split at h
    · rename_i h2
      injection h with h
      exact .inr ⟨h2.1, h2.2.1, h2.2.2, h.symm⟩
    · cases h

/-- What is read is what would be told. -/
theorem mach_back (l : List UInt8) : ∀ r c : Nat, mach (0, 0) l = some (r, c) → r ≤ 65536 → c ≤ 256 → l = lets c ++ digs r := by
  refine snoc_ind (P := fun l => ∀ r c : Nat, mach (0, 0) l = some (r, c) → r ≤ 65536 → c ≤ 256 → l = lets c ++ digs r) ?_ ?_ l
  · intro r c h _ _
    simp only [mach, Option.some.injEq, Prod.mk.injEq] at h
    obtain ⟨rfl, rfl⟩ := h
    rfl
  · intro l x ih r c h hr hc
    rw [mach_append] at h
    cases hm : mach (0, 0) l with
    | none => rw [hm] at h; cases h
    | some s =>
      obtain ⟨r', c'⟩ := s
      rw [hm] at h
      simp only [Option.bind_some, mach] at h
      cases hs : stp r' c' x with
      | none => rw [hs] at h; cases h
      | some s' =>
        rw [hs] at h
        simp only [Option.bind_some, Option.some.injEq] at h
        subst h
        rcases stp_cases hs with ⟨h1, h2, h3⟩ | ⟨h1, h2, h3, h4⟩
        · simp only [Prod.mk.injEq] at h3
          obtain ⟨rfl, h3⟩ := h3
          subst h2
          simp only [isL, decide_eq_true_eq] at h1
          have hc' : c' ≤ 9 := by omega
          rw [ih 0 c' hm (by omega) (by omega)]
          have hx : UInt8.ofNat (65 + (x.toNat - 65)) = x := by
            rw [show 65 + (x.toNat - 65) = x.toNat by omega]
            exact UInt8.ofNat_toNat
          have := lets_snoc ⟨c', by omega⟩ ⟨x.toNat - 65, by omega⟩ (by simp only; omega)
          simp only [hx] at this
          rw [show c = c' * 26 + (x.toNat - 65) + 1 by omega, ← this]
          simp [digs]
        · simp only [Prod.mk.injEq] at h4
          obtain ⟨h4, rfl⟩ := h4
          simp only [isD, decide_eq_true_eq] at h1
          rw [ih r' c hm (by omega) hc]
          have hx : UInt8.ofNat (48 + (x.toNat - 48)) = x := by
            rw [show 48 + (x.toNat - 48) = x.toNat by omega]
            exact UInt8.ofNat_toNat
          have hd : 0 < r' ∨ 0 < x.toNat - 48 := by
            rcases h3 with h3 | h3
            · exact .inl h3
            · refine .inr ?_
              have : x.toNat ≠ 48 := fun e => h3 (UInt8.toNat_inj.1 e)
              omega
          have := digs_snoc r' (x.toNat - 48) (by omega) hd
          rw [hx] at this
          rw [List.append_assoc, this, show r = r' * 10 + (x.toNat - 48) by omega]
theorem mach_words (l : List UInt8) (r c : Nat) (h : mach (0, 0) l = some (r, c)) (hr0 : r ≠ 0) (hc0 : c ≠ 0) (hr : r ≤ 65536) (hc : c ≤ 256) : l = wordL (r - 1) (c - 1) := by
  have := mach_back l r c h hr hc
  unfold lets digs at this
  rw [if_neg hr0, if_neg hc0] at this
  unfold wordL
  rw [show r - 1 + 1 = r by omega]
  exact this
/-- A row that has begun has a column. -/
theorem mach_pos (l : List UInt8) : ∀ r c : Nat, mach (0, 0) l = some (r, c) → r ≠ 0 → c ≠ 0 := by
  refine snoc_ind (P := fun l => ∀ r c : Nat, mach (0, 0) l = some (r, c) → r ≠ 0 → c ≠ 0) ?_ ?_ l
  · intro r c h
    simp only [mach, Option.some.injEq, Prod.mk.injEq] at h
    omega
  · intro l x ih r c h hr
    rw [mach_append] at h
    cases hm : mach (0, 0) l with
    | none => rw [hm] at h; cases h
    | some s =>
      rw [hm] at h
      simp only [Option.bind_some, mach] at h
      cases hs : stp s.1 s.2 x with
      | none => rw [hs] at h; cases h
      | some s' =>
        rw [hs] at h
        simp only [Option.bind_some, Option.some.injEq] at h
        subst h
        rcases stp_cases hs with ⟨h1, h2, h3⟩ | ⟨h1, h2, h3, h4⟩
        · simp only [Prod.mk.injEq] at h3; omega
        · simp only [Prod.mk.injEq] at h4; omega
/-- The words of unlike cells are unlike. -/
theorem word_inj {r c r' c' : Nat} (h0 : r < 65536) (h1 : c < 256) (h2 : r' < 65536) (h3 : c' < 256) (h : wordL r c = wordL r' c') : r = r' ∧ c = c' := by
  have e1 := mach_word r c h0 h1
  rw [h, mach_word r' c' h2 h3] at e1
  simp only [Option.some.injEq, Prod.mk.injEq] at e1
  omega
/-- How many letters stand ahead. -/
def ahead : List UInt8 → Nat
  | [] => 0
  | x :: l => if 65 ≤ x.toNat then ahead l + 1 else 0
def colW (c : Nat) : Nat := if c < 26 then 1 else 2
theorem dec_head (n : Nat) : ∃ x l, decDigits n = x :: l ∧ x.toNat < 65 := by
  induction n using Nat.strongRecOn with
  | _ n ih =>
    by_cases h : n < 10
    · exact ⟨_, _, decDigits_one h, by rw [dig_toNat h]; omega⟩
    · obtain ⟨x, l, h1, h2⟩ := ih (n / 10) (by omega)
      rw [decDigits, dif_neg h, h1]
      exact ⟨x, _, rfl, h2⟩
theorem ahead_word (r c : Nat) (hc : c < 256) : ahead (wordL r c) = colW c := by
  obtain ⟨x, l, h1, h2⟩ := dec_head (r + 1)
  unfold wordL colL colW
  rw [h1]
  split
  · simp only [List.singleton_append, ahead]
    rw [let_toNat (by omega), if_pos (by omega), if_neg (by omega)]
  · simp only [List.cons_append, List.nil_append, ahead]
    rw [let_toNat (by omega), let_toNat (by omega), if_pos (by omega), if_pos (by omega), if_neg (by omega)]
end Go.Proofs.YtgjijjdpkmdcgaaDoor
