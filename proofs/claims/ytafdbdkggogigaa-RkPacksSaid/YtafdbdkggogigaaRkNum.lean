/- Short numbers, plainly: what is packed is unpacked, and the other way round. No condition but the numbers' kinds. -/
import Derived.Test.YtafdbdkggogigaaKnown5
namespace Go.Proofs.Ytafdbdkggogigaa
open Go.RowKit

theorem rk_cases (m s : Int) : rkE m s = 0 ∨ rkE m s = 1 ∨ rkE m s = 8 := by
  unfold rkE
  rcases ck01 m s with h | h <;> rw [h] <;> cases sh m <;> simp
theorem rk_ok {m s : Int} (h : rkE m s = 0) : ckE m s = 0 ∧ -134217728 ≤ m ∧ m ≤ 134217727 := by
  unfold rkE at h
  rcases ck01 m s with h1 | h1 <;> rw [h1] at h
  · cases h2 : sh m
    · rw [h2] at h; simp at h
    · exact ⟨h1, by simpa [sh] using h2⟩
  · simp at h
theorem rk_no {m s : Int} (h : rkE m s ≠ 0) : rkV m s = 0 := by unfold rkV; rw [if_neg h]
theorem rk_back {m s : Int} (h : rkE m s = 0) :
    uV (rkV m s) = .agg #[.int .i64 m, .int .i64 s] ∧ uE (rkV m s) = 0 ∧ 0 ≤ rkV m s ∧ rkV m s < 4294967296 := by
  obtain ⟨h1, h2, h3⟩ := rk_ok h
  obtain ⟨h4, h5⟩ := ck_s h1
  have e0 : rkV m s = rkN m s := by unfold rkV; rw [if_pos h]
  have e1 : uM (rkN m s) = m := by unfold uM rkN; split <;> omega
  have e2 : uS (rkN m s) = s := by unfold uS rkN; omega
  have e3 : 0 ≤ rkN m s ∧ rkN m s < 4294967296 := by unfold rkN; omega
  have e4 : uE (rkN m s) = 0 := by unfold uE; rw [if_neg (by omega), e1, e2, h1]
  rw [e0]
  exact ⟨by unfold uV; rw [if_pos e4, e1, e2], e4, e3.1, e3.2⟩
theorem u_cases (n : Int) : uE n = 0 ∨ uE n = 1 := by
  unfold uE
  split
  · exact .inr rfl
  · exact ck01 _ _
theorem u_back {n : Int} (h : uE n = 0) : rkE (uM n) (uS n) = 0 ∧ rkV (uM n) (uS n) = n := by
  by_cases h0 : n < 0 ∨ 4294967295 < n
  · unfold uE at h
    rw [if_pos h0] at h
    cases h
  · unfold uE at h
    rw [if_neg h0] at h
    have h1 : sh (uM n) = true := by
      simp only [sh, decide_eq_true_eq]
      unfold uM
      split <;> omega
    have h2 : rkE (uM n) (uS n) = 0 := by unfold rkE; rw [if_pos h, if_pos h1]
    refine ⟨h2, ?_⟩
    unfold rkV
    rw [if_pos h2]
    unfold rkN uM uS
    split <;> omega
end Go.Proofs.Ytafdbdkggogigaa
