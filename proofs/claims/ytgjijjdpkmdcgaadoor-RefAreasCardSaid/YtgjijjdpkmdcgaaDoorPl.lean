/- Places, plainly: numbers round an edge, an area's corners. No condition; no model. -/
import Derived.Lib.ItoaNum
namespace Go.Proofs.YtgjijjdpkmdcgaaDoor

/-- Is there such a cell? -/
def gdB (r c : Int) : Bool := decide (0 ≤ r ∧ r < 65536 ∧ 0 ≤ c ∧ c < 256)
/-- What Check tells of a place. -/
def ckI (r c : Int) : Int := if gdB r c = true then 0 else 12
/-- What CheckArea tells. -/
def ckA (r c r' c' : Int) : Int := if ckI r c = 0 then ckI r' c' else 12
/-- n behind b, round at the edge m, where it is relative. -/
def fo (n b : Int) (rel : Bool) (m : Int) : Int := if rel = true then (n % m + b % m) % m else n % m
/-- The number of which fo tells n. -/
def ba (n b : Int) (rel : Bool) (m : Int) : Int := if rel = true then (n % m - b % m) % m else n % m

theorem gdB_iff {r c : Int} : gdB r c = true ↔ 0 ≤ r ∧ r < 65536 ∧ 0 ≤ c ∧ c < 256 := by simp [gdB]
theorem gdB_no {r c : Int} (h : ¬ (0 ≤ r ∧ r < 65536 ∧ 0 ≤ c ∧ c < 256)) : gdB r c = false := by simp only [gdB, decide_eq_false_iff_not]; exact h
theorem ck_ok {r c : Int} : ckI r c = 0 ↔ gdB r c = true := by
  unfold ckI
  cases gdB r c <;> simp
theorem ck_cases (r c : Int) : (gdB r c = true ∧ ckI r c = 0) ∨ (gdB r c = false ∧ ckI r c = 12) := by
  unfold ckI
  cases gdB r c <;> simp

theorem fo_bd (n b : Int) (rel : Bool) (m : Int) (hm : 0 < m) : 0 ≤ fo n b rel m ∧ fo n b rel m < m := by
  unfold fo
  split
  · exact ⟨Int.emod_nonneg _ (by omega), Int.emod_lt_of_pos _ hm⟩
  · exact ⟨Int.emod_nonneg _ (by omega), Int.emod_lt_of_pos _ hm⟩
theorem ba_bd (n b : Int) (rel : Bool) (m : Int) (hm : 0 < m) : 0 ≤ ba n b rel m ∧ ba n b rel m < m := by
  unfold ba
  split
  · exact ⟨Int.emod_nonneg _ (by omega), Int.emod_lt_of_pos _ hm⟩
  · exact ⟨Int.emod_nonneg _ (by omega), Int.emod_lt_of_pos _ hm⟩
/-- There and back. -/
theorem fo_ba_r (n b : Int) (rel : Bool) (h0 : 0 ≤ n) (h1 : n < 65536) : fo (ba n b rel 65536) b rel 65536 = n := by
  unfold fo ba
  cases rel <;> simp only [if_true, Bool.false_eq_true, if_false] <;> omega
theorem fo_ba_c (n b : Int) (rel : Bool) (h0 : 0 ≤ n) (h1 : n < 256) : fo (ba n b rel 256) b rel 256 = n := by
  unfold fo ba
  cases rel <;> simp only [if_true, Bool.false_eq_true, if_false] <;> omega
/-- What the model's remainder, mended, is. -/
theorem tm_neg {n m : Int} (hm : 0 < m) (h : n.tmod m < 0) : n.tmod m + m = n % m := by
  have h1 := Int.emod_nonneg n (show m ≠ 0 by omega)
  have h2 := Int.emod_lt_of_pos n hm
  rw [Int.tmod_eq_emod] at h ⊢
  split at h <;> rename_i hc
  · omega
  · rw [if_neg hc]; omega
theorem tm_pos {n m : Int} (hm : 0 < m) (h : ¬ n.tmod m < 0) : n.tmod m = n % m := by
  have h1 := Int.emod_nonneg n (show m ≠ 0 by omega)
  have h2 := Int.emod_lt_of_pos n hm
  rw [Int.tmod_eq_emod] at h ⊢
  split at h <;> rename_i hc
  · rw [if_pos hc]; omega
  · exact absurd h (by omega)
theorem tm_bd (n : Int) {m : Int} (hm : 0 < m) : -m < n.tmod m ∧ n.tmod m < m := by
  have h1 := Int.emod_nonneg n (show m ≠ 0 by omega)
  have h2 := Int.emod_lt_of_pos n hm
  rw [Int.tmod_eq_emod]
  split <;> omega
/-- So much farther, round the edges. -/
theorem fo_far_r (n b d : Int) (rel : Bool) (_ : 0 ≤ b) (_ : 0 ≤ d) : fo n ((b + d) % 65536) rel 65536 = if rel = true then (fo n b rel 65536 + d) % 65536 else fo n b rel 65536 := by
  unfold fo
  cases rel <;> simp only [if_true, Bool.false_eq_true, if_false]
  omega
theorem fo_far_c (n b d : Int) (rel : Bool) (_ : 0 ≤ b) (_ : 0 ≤ d) : fo n ((b + d) % 256) rel 256 = if rel = true then (fo n b rel 256 + d) % 256 else fo n b rel 256 := by
  unfold fo
  cases rel <;> simp only [if_true, Bool.false_eq_true, if_false]
  omega
end Go.Proofs.YtgjijjdpkmdcgaaDoor
