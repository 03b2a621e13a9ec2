/- The reference's reading of runes, plainly: one step of it is one of the decoder's. No condition; no model. -/
import Derived.Test.YtgepipapppdhfaaDoorStr0
namespace Go.Proofs.YtgepipapppdhfaaDoor
open Go.Lib

/-- How many bytes follow a first one; 4: it is none. -/
def clsN (c : Nat) : Nat := if c < 128 then 0 else if c < 194 then 4 else if c < 224 then 1 else if c < 240 then 2 else if c < 245 then 3 else 4
def v0N (c : Nat) : Nat := if clsN c = 0 then c else if clsN c = 1 then c % 32 else if clsN c = 2 then c % 16 else c % 8
def leastN (c : Nat) : Nat := if clsN c = 0 then 0 else if clsN c = 1 then 128 else if clsN c = 2 then 2048 else 65536
/-- The number that so many bytes behind a first one make. -/
def foldN (l : List UInt8) (v0 i : Nat) : Nat → Nat
  | 0 => v0
  | k + 1 => foldN l v0 i k * 64 + (l.getD (i + (k + 1)) 0).toNat % 64
def contN (l : List UInt8) (i k : Nat) : Prop := (l.getD (i + k) 0).toNat / 64 = 2
def badV (v least : Nat) : Prop := v < least ∨ (55296 ≤ v ∧ v < 57344) ∨ 1114111 < v

theorem cls_cases (c : Nat) : (clsN c = 0 ∧ c < 128) ∨ (clsN c = 1 ∧ 194 ≤ c ∧ c < 224) ∨ (clsN c = 2 ∧ 224 ≤ c ∧ c < 240) ∨ (clsN c = 3 ∧ 240 ≤ c ∧ c < 245) ∨ (clsN c = 4 ∧ 128 ≤ c ∧ (c < 194 ∨ 245 ≤ c)) := by
  unfold clsN
  by_cases h1 : c < 128
  · rw [if_pos h1]; omega
  · rw [if_neg h1]
    by_cases h2 : c < 194
    · rw [if_pos h2]; omega
    · rw [if_neg h2]
      by_cases h3 : c < 224
      · rw [if_pos h3]; omega
      · rw [if_neg h3]
        by_cases h4 : c < 240
        · rw [if_pos h4]; omega
        · rw [if_neg h4]
          by_cases h5 : c < 245
          · rw [if_pos h5]; omega
          · rw [if_neg h5]; omega
theorem cls_le (c : Nat) : clsN c ≤ 4 := by have := cls_cases c; omega

theorem getD_drop' (l : List UInt8) (i k : Nat) : (l.drop i).getD k 0 = l.getD (i + k) 0 := by simp [List.getD_eq_getElem?_getD]

/-- Where the step is good it is the decoder's. -/
theorem step_good (l : List UInt8) (i c : Nat) (hc : (l.getD i 0).toNat = c) (h4 : clsN c ≠ 4) (hl : clsN c < l.length - i) (hk : ∀ k, 1 ≤ k → k ≤ clsN c → contN l i k)
    (hb : ¬ badV (foldN l (v0N c) i (clsN c)) (leastN c)) : decodeL (l.drop i) = (foldN l (v0N c) i (clsN c), clsN c + 1) := by
  have e : ∀ k, (l.drop i).getD k 0 = l.getD (i + k) 0 := getD_drop' l i
  have hlen : (l.drop i).length = l.length - i := List.length_drop ..
  rw [decodeL_N, hlen, e 0, e 1, e 2, e 3]
  simp only [Nat.add_zero]
  rw [hc]
  have k1 := (l.getD (i + 1) 0).toNat_lt
  have k2 := (l.getD (i + 2) 0).toNat_lt
  have k3 := (l.getD (i + 3) 0).toNat_lt
  have hcl : c < 256 := by rw [← hc]; exact (l.getD i 0).toNat_lt
  have hcase : clsN c = 0 ∨ clsN c = 1 ∨ clsN c = 2 ∨ clsN c = 3 := by have := cls_le c; omega
  rcases hcase with h | h | h | h
  · have h1 : c < 128 := by have := cls_cases c; omega
    rw [h]
    simp only [foldN, v0N, h, if_true]
    unfold decodeN
    rw [if_pos h1]
  · have h1 : 194 ≤ c ∧ c < 224 := by have := cls_cases c; omega
    have c1 := hk 1 (by omega) (by omega)
    unfold contN at c1
    rw [h] at hl hb ⊢
    simp only [foldN, v0N, leastN, badV, h] at hb ⊢
    simp only [Nat.one_ne_zero, if_false, if_true, Nat.zero_add] at hb ⊢
    unfold decodeN
    rw [if_neg (by omega), if_pos ⟨by omega, by omega, c1⟩, if_pos (by omega)]
  · have h1 : 224 ≤ c ∧ c < 240 := by have := cls_cases c; omega
    have c1 := hk 1 (by omega) (by omega)
    have c2 := hk 2 (by omega) (by omega)
    unfold contN at c1 c2
    rw [h] at hl hb ⊢
    simp only [foldN, v0N, leastN, badV, h] at hb ⊢
    simp (config := { decide := true }) only [if_false, if_true, Nat.zero_add, Nat.reduceAdd] at hb ⊢
    unfold decodeN
    rw [if_neg (by omega), if_neg (by omega), if_pos ⟨by omega, ⟨by omega, c1⟩, by omega, c2⟩, if_pos (by omega)]
    refine Prod.ext ?_ rfl
    simp only
    omega
  · have h1 : 240 ≤ c ∧ c < 245 := by have := cls_cases c; omega
    have c1 := hk 1 (by omega) (by omega)
    have c2 := hk 2 (by omega) (by omega)
    have c3 := hk 3 (by omega) (by omega)
    unfold contN at c1 c2 c3
    rw [h] at hl hb ⊢
    simp only [foldN, v0N, leastN, badV, h] at hb ⊢
    simp (config := { decide := true }) only [if_false, if_true, Nat.zero_add, Nat.reduceAdd] at hb ⊢
    unfold decodeN
    rw [if_neg (by omega), if_neg (by omega), if_neg (by omega), if_pos ⟨by omega, ⟨by omega, c1⟩, ⟨by omega, c2⟩, by omega, c3⟩, if_pos (by omega)]
    refine Prod.ext ?_ rfl
    simp only
    omega
/-- Where it is not the decoder tells that it is none. -/
theorem step_bad (l : List UInt8) (i c : Nat) (hi : i < l.length) (hc : (l.getD i 0).toNat = c)
    (h : clsN c = 4 ∨ l.length - i ≤ clsN c ∨ (∃ k, 1 ≤ k ∧ k ≤ clsN c ∧ ¬ contN l i k) ∨ badV (foldN l (v0N c) i (clsN c)) (leastN c)) : decodeL (l.drop i) = (65533, 1) := by
  have e : ∀ k, (l.drop i).getD k 0 = l.getD (i + k) 0 := getD_drop' l i
  have hlen : (l.drop i).length = l.length - i := List.length_drop ..
  rw [decodeL_N, hlen, e 0, e 1, e 2, e 3]
  simp only [Nat.add_zero]
  rw [hc]
  have k1 := (l.getD (i + 1) 0).toNat_lt
  have k2 := (l.getD (i + 2) 0).toNat_lt
  have k3 := (l.getD (i + 3) 0).toNat_lt
  have hcl : c < 256 := by rw [← hc]; exact (l.getD i 0).toNat_lt
  rcases decodeN_shape (l.length - i) c (l.getD (i + 1) 0).toNat (l.getD (i + 2) 0).toNat (l.getD (i + 3) 0).toNat with ⟨g, e⟩ | ⟨g1, g2, g3, gv, e⟩ | ⟨g1, g2, g3, g4, gv, gs, e⟩ | ⟨g1, g2, g3, g4, g5, gv, gw, e⟩ | e
  · exfalso
    have hn : clsN c = 0 := by unfold clsN; rw [if_pos g]
    rcases h with h | h | ⟨k, h1, h2, -⟩ | h
    · omega
    · omega
    · omega
    · rw [hn] at h
      simp only [foldN, badV, v0N, leastN, hn, if_true] at h
      omega
  · exfalso
    have hn : clsN c = 1 := by have := cls_cases c; omega
    rcases h with h | h | ⟨k, h1, h2, h3⟩ | h
    · omega
    · omega
    · obtain rfl : k = 1 := by omega
      exact h3 g3
    · rw [hn] at h
      simp only [foldN, badV, v0N, leastN, hn] at h
      simp (config := { decide := true }) only [if_false, if_true, Nat.zero_add, Nat.reduceAdd] at h
      omega
  · exfalso
    have hn : clsN c = 2 := by have := cls_cases c; omega
    rcases h with h | h | ⟨k, h1, h2, h3⟩ | h
    · omega
    · omega
    · have hk : k = 1 ∨ k = 2 := by omega
      rcases hk with rfl | rfl
      · exact h3 g3
      · exact h3 g4
    · rw [hn] at h
      simp only [foldN, badV, v0N, leastN, hn] at h
      simp (config := { decide := true }) only [if_false, if_true, Nat.zero_add, Nat.reduceAdd] at h
      omega
  · exfalso
    have hn : clsN c = 3 := by have := cls_cases c; omega
    rcases h with h | h | ⟨k, h1, h2, h3⟩ | h
    · omega
    · omega
    · have hk : k = 1 ∨ k = 2 ∨ k = 3 := by omega
      rcases hk with rfl | rfl | rfl
      · exact h3 g3
      · exact h3 g4
      · exact h3 g5
    · rw [hn] at h
      simp only [foldN, badV, v0N, leastN, hn] at h
      simp (config := { decide := true }) only [if_false, if_true, Nat.zero_add, Nat.reduceAdd] at h
      omega
  · exact e
end Go.Proofs.YtgepipapppdhfaaDoor
