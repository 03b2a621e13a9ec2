/- Decimals in words: what dec.Text and the reference's DecText write, as lists of bytes. No program; no condition. -/
import Derived.Test.YtmbjmgmnicacpaaDoorDig
import Derived.Lib.ItoaNum
namespace Go.Proofs.YtmbjmgmnicacpaaDoor

def bt (d : Nat) : UInt8 := UInt8.ofNat (48 + d)

theorem decDigits_digs : ∀ (k n : Nat), n ≤ k → 0 < n → Lib.decDigits n = ((digs n).map bt).reverse
  | 0, n, h, h0 => by omega
  | k + 1, n, h, h0 => by
    rw [Lib.decDigits, digs_pos h0]
    by_cases hn : n < 10
    · rw [dif_pos hn, Nat.mod_eq_of_lt hn, Nat.div_eq_of_lt hn, digs_zero]
      rfl
    · rw [dif_neg hn, decDigits_digs k (n / 10) (by omega) (by omega)]
      simp [bt]
theorem decDigits_0 : Lib.decDigits 0 = [48] := by rw [Lib.decDigits]; rfl

/-- The digits, the lowest first, with noughts up to one more than s. -/
def padded (n s : Nat) : List Nat := digs n ++ List.replicate (s + 1 - (digs n).length) 0
theorem padded_len (n s : Nat) : s + 1 ≤ (padded n s).length := by simp [padded]; omega

/-- What stands when the digits up to i are told, from the last one on. -/
def rb (l : List Nat) (s : Nat) : Nat → List UInt8
  | 0 => []
  | i + 1 => bt (l.getD i 0) :: ((if i = s ∧ 0 < i then [46] else []) ++ rb l s i)

def body (l : List Nat) (s : Nat) : List UInt8 := ((l.drop s).map bt).reverse ++ (if 0 < s then [46] else []) ++ ((l.take s).map bt).reverse
def decTx (m : Int) (s : Nat) : List UInt8 := (if m < 0 then [45] else []) ++ body (padded m.natAbs s) s

theorem take_snoc {l : List Nat} {i : Nat} (h : i < l.length) : l.take (i + 1) = l.take i ++ [l.getD i 0] := by
  rw [List.take_add_one, List.getD_eq_getElem?_getD]
  simp [List.getElem?_eq_getElem h]

theorem rb_low {l : List Nat} {s : Nat} : ∀ {i : Nat}, i ≤ s → i ≤ l.length → rb l s i = ((l.take i).map bt).reverse
  | 0, _, _ => by simp [rb]
  | i + 1, h, hl => by
    rw [rb, rb_low (by omega) (by omega), if_neg (by omega), take_snoc (by omega)]
    simp

theorem rb_high {l : List Nat} {s : Nat} : ∀ {k : Nat}, s + k + 1 ≤ l.length → rb l s (s + k + 1) = (((l.take (s + k + 1)).drop s).map bt).reverse ++ (if 0 < s then [46] else []) ++ ((l.take s).map bt).reverse
  | 0, h => by
    rw [rb, Nat.add_zero, rb_low (Nat.le_refl _) (by omega), take_snoc (by omega)]
    by_cases h0 : 0 < s
    · rw [if_pos ⟨rfl, h0⟩, if_pos h0, List.drop_append, List.drop_of_length_le (by simp; omega)]
      simp [List.length_take, Nat.min_eq_left (show s ≤ l.length by omega)]
    · rw [if_neg (by omega), if_neg h0, List.drop_append, List.drop_of_length_le (by simp; omega)]
      simp [List.length_take, Nat.min_eq_left (show s ≤ l.length by omega)]
  | k + 1, h => by
    have ih := rb_high (l := l) (s := s) (k := k) (by omega)
    rw [show s + (k + 1) + 1 = (s + k + 1) + 1 from by omega, rb, ih, if_neg (by omega), take_snoc (i := s + k + 1) (by omega), List.drop_append_of_le_length (by simp; omega)]
    simp

theorem rb_end {l : List Nat} {s : Nat} (h : s + 1 ≤ l.length) : rb l s l.length = body l s := by
  have := rb_high (l := l) (s := s) (k := l.length - s - 1) (by omega)
  rw [show s + (l.length - s - 1) + 1 = l.length from by omega] at this
  rw [this, List.take_length]
  rfl

/-- The program's way: the digits as they are written, noughts ahead. -/
theorem prog_pad (n s : Nat) : List.replicate (s + 1 - (Lib.decDigits n).length) 48 ++ Lib.decDigits n = ((padded n s).map bt).reverse := by
  by_cases h : n = 0
  · subst h
    rw [decDigits_0, padded, digs_zero]
    simp [bt, ← List.replicate_succ']
  · rw [decDigits_digs n n (Nat.le_refl _) (by omega), padded]
    simp [bt]

theorem prog_point {l : List Nat} {s : Nat} (h : s + 1 ≤ l.length) (h0 : 0 < s) :
    (((l.map bt).reverse).take (l.length - s) ++ [46] ++ ((l.map bt).reverse).drop (l.length - s)) = body l s := by
  unfold body
  rw [if_pos h0, List.take_reverse, List.drop_reverse]
  simp [List.length_map, show l.length - (l.length - s) = s from by omega]
theorem prog_whole {l : List Nat} : (l.map bt).reverse = body l 0 := by simp [body]
end Go.Proofs.YtmbjmgmnicacpaaDoor
