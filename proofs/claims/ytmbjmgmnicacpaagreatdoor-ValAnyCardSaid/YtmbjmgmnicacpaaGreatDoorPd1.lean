/- The reference's ParseDec, its loop: a digit laid ahead of the digits so far, as a step. No condition. -/
import Derived.Test.YtmbjmgmnicacpaaGreatDoorSmL
import Derived.Test.YtmbjmgmnicacpaaGreatDoorRow5
import Derived.Test.YtmbjmgmnicacpaaGreatDoorPa3
import Derived.Test.YtmbjmgmnicacpaaGreatDoorDt
namespace Go.Proofs.YtmbjmgmnicacpaaGreatDoor
open Go.RowKit

/-- What ParseDec tells behind its loop. -/
def refE (l : List UInt8) (b : Bool) (k : Nat) : Option (Option Nat × List Nat) → DR
  | none => ⟨0, 0, 2⟩
  | some (none, D) => if l.length - k = 0 ∨ l.getD k 0 = 48 ∧ 1 < l.length - k then ⟨0, 0, 2⟩ else refN b (dval D) 0 (l.getLast? == some 48)
  | some (some d, D) => if d - k = 0 ∨ d + 1 = l.length ∨ l.getD k 0 = 48 ∧ 1 < d - k then ⟨0, 0, 2⟩ else refN b (dval D) (l.length - d - 1) (l.getLast? == some 48)
theorem refE_eq (l : List UInt8) (b : Bool) (k : Nat) : refM l b k = refE l b k (rrun k k (l.drop k) none []) := by
  unfold refM
  cases rrun k k (l.drop k) none [] with
  | none => rfl
  | some x =>
    obtain ⟨dot, D⟩ := x
    cases dot <;> rfl

theorem idx_s (s : ByteArray) {i : Int} (j : Nat) (hj : i = (j : Int)) (h : j < s.size) (W : World) : (Instr.index 9 (.string s) (.int .i64 i)).run Tryz.prog W = .ok (.int .u8 ((s[j]'h).toNat : Nat)) W := by
  subst hj
  simp [Instr.index, asIntOf, underlying, Tryz.underlying9, h]
theorem getD_s (s : ByteArray) (i : Nat) (h : i < s.size) : s.data.toList.getD i 0 = s[i]'h := by
  rw [List.getD_eq_getElem?_getD, List.getElem?_eq_getElem (by rw [Array.length_toList]; exact h)]
  rfl
theorem last_s (s : ByteArray) (h : s.size - 1 < s.size) : (s.data.toList.getLast? == some 48) = decide ((s[s.size - 1]'h).toNat = 48) := by
  rw [List.getLast?_eq_getElem?, show s.data.toList.length = s.size from Array.length_toList, List.getElem?_eq_getElem (by rw [Array.length_toList]; exact h)]
  have e : s.data.toList[s.size - 1]'(by rw [Array.length_toList]; exact h) = s[s.size - 1]'h := rfl
  rw [e]
  by_cases hc : s[s.size - 1]'h = 48
  · rw [hc]; rfl
  · have : ¬ (s[s.size - 1]'h).toNat = 48 := fun hh => hc ((UInt8.toNat_inj (b := 48)).1 hh)
    rw [decide_eq_false this]
    exact beq_eq_false_iff_ne.2 fun hh => hc (Option.some.inj hh)
theorem digs_le {l : List Nat} {M : Nat} (hd : Digs l) (h : l.length ≤ M) : (digs (dval l)).length ≤ M := digs_len.2 (Nat.lt_of_lt_of_le (dval_lt hd) (Nat.pow_le_pow_right (by decide) h))
theorem tl_sgn (b : Bool) (N : Nat) : tl (sgn b N) 0 = if N ≤ most (b && !(N == 0)) then ⟨sgn (b && !(N == 0)) N, 0, 0⟩ else ⟨0, 0, 8⟩ := by
  have e : decide (sgn b N < 0) = (b && !(N == 0)) := by
    unfold sgn
    cases b
    · simp
    · by_cases h0 : N = 0
      · subst h0; rfl
      · have h1 : (N == 0) = false := beq_eq_false_iff_ne.2 h0
        rw [h1]
        exact decide_eq_true (by show -(N : Int) < 0; omega)
  unfold tl tlb
  rw [e, sgn_abs, strip_end (.inl rfl)]

theorem rstep_dot {b k : Nat} {D : List Nat} (h : b < k) : rstep b k 46 none D = some (some k, D) := by unfold rstep; rw [if_pos ⟨rfl, rfl, h⟩]
theorem rstep_dig {b k : Nat} {c : UInt8} {dot : Option Nat} {D : List Nat} (h : ¬ (c = 46 ∧ dot = none ∧ b < k)) (hd : dq c = true) : rstep b k c dot D = some (dot, qv c :: D) := by unfold rstep; rw [if_neg h, if_pos hd]
theorem rstep_no {b k : Nat} {c : UInt8} {dot : Option Nat} {D : List Nat} (h : ¬ (c = 46 ∧ dot = none ∧ b < k)) (hd : dq c = false) : rstep b k c dot D = none := by unfold rstep; rw [if_neg h, if_neg (by rw [hd]; decide)]
theorem drop_at (s : ByteArray) (k : Nat) (h : k < s.size) : s.data.toList.drop k = s[k] :: s.data.toList.drop (k + 1) := by
  rw [List.drop_eq_getElem_cons (by rw [Array.length_toList]; exact h)]
  rfl
theorem rrun_at {b k : Nat} {s : ByteArray} {dot : Option Nat} {D : List Nat} {R : Option (Option Nat × List Nat)} (h : k < s.size) (hr : rrun b k (s.data.toList.drop k) dot D = R) :
    (∀ x, rstep b k (s[k]'h) dot D = some x → rrun b (k + 1) (s.data.toList.drop (k + 1)) x.1 x.2 = R) ∧ (rstep b k (s[k]'h) dot D = none → R = none) := by
  rw [drop_at s k h, rrun] at hr
  constructor
  · intro x hx
    rw [hx] at hr
    exact hr
  · intro hx
    rw [hx] at hr
    exact hr.symm
theorem dq_iff (c : UInt8) : dq c = true ↔ 48 ≤ c.toNat ∧ c.toNat ≤ 57 := by simp [dq]
theorem u8_eq {c : UInt8} {n : Nat} (hn : n < 256) : c = UInt8.ofNat n ↔ c.toNat = n := by
  constructor
  · rintro rfl
    exact UInt8.toNat_ofNat_of_lt' hn
  · intro h
    exact UInt8.toNat_inj.1 (by rw [UInt8.toNat_ofNat_of_lt' (by exact hn), h])
end Go.Proofs.YtmbjmgmnicacpaaGreatDoor
