/- What a text reads as is a decimal that may be. No program; no condition. -/
/- cashbooklaw11.FunTypes by its contract, whatever the value. Condition: the tables are laid. -/
import Derived.Test.YtngkolcpbgibcaaGreatDoorKb
import Derived.Test.YtngkolcpbgibcaaGreatDoorTy
set_option linter.unusedVariables false
set_option linter.unusedSimpArgs false
namespace Go.Proofs.YtngkolcpbgibcaaGreatDoor
theorem rrun_last {b : Nat} {c : UInt8} : ∀ (l : List UInt8) (k : Nat) (dot : Option Nat) (D : List Nat) {dot' : Option Nat} {D' : List Nat}, rrun b k (l ++ [c]) dot D = some (dot', D') → dot' = some (k + l.length) ∨ dq c = true ∧ D'.head? = some (qv c)
  | [], k, dot, D, dot', D', h => by
    simp only [List.nil_append, rrun, rstep] at h
    by_cases h1 : c = 46 ∧ dot = none ∧ b < k
    · rw [if_pos h1] at h; injection h with h; injection h with h h2; exact .inl (by rw [← h]; simp)
    · rw [if_neg h1] at h
      by_cases h2 : dq c = true
      · rw [if_pos h2] at h; injection h with h; injection h with h h3; exact .inr ⟨h2, by rw [← h3]; rfl⟩
      · rw [if_neg h2] at h
        cases h
  | x :: l, k, dot, D, dot', D', h => by
    rw [List.cons_append, rrun] at h
    split at h
    · cases h
    · have := rrun_last l (k + 1) _ _ h; rw [List.length_cons, show k + (l.length + 1) = k + 1 + l.length by omega]; exact this
theorem refN_gd {b z : Bool} {n pl : Nat} (h : (refN b n pl z).e = 0) (hz : 0 < pl → z = false → n % 10 ≠ 0) : Gd (refN b n pl z).m (refN b n pl z).s := by
  unfold refN at h ⊢
  by_cases h1 : n = 0 ∧ b = true ∧ pl = 0
  · rw [if_pos h1] at h
    cases h
  rw [if_neg h1] at h ⊢
  by_cases h2 : n ≤ most (b && !(n == 0))
  · rw [if_pos h2] at h ⊢
    by_cases h3 : 9 < pl ∨ 0 < pl ∧ z = true
    · rw [if_pos h3] at h
      cases h
    · rw [if_neg h3]
      have hl : pl = 0 ∨ n % 10 ≠ 0 := by
        by_cases hp : pl = 0
        · exact .inl hp
        · refine .inr (hz (by omega) ?_)
          cases z
          · rfl
          · exact absurd (.inr ⟨by omega, rfl⟩) h3
      show Gd (sgn (b && !(n == 0)) n) pl
      generalize (b && !(n == 0)) = c at *
      cases c <;> simp only [most, sgn, if_true, if_false, Bool.false_eq_true] at h2 ⊢
      · exact ⟨by omega, by omega, by omega, by rw [Int.natAbs_natCast]; exact hl⟩
      · exact ⟨by omega, by omega, by omega, by rw [Int.natAbs_neg, Int.natAbs_natCast]; exact hl⟩
  · rw [if_neg h2] at h
    cases h
theorem pD_gd {l : List UInt8} (h : (pD l).e = 0) : Gd (pD l).m (pD l).s := by
  unfold pD refM at h ⊢; generalize (pre (isNeg l)).length = k at *; generalize isNeg l = b at *
  rcases hr : rrun k k (l.drop k) none [] with _ | ⟨_ | d, D⟩
  · rw [hr] at h
    cases h
  · rw [hr] at h; dsimp only at h ⊢
    split at h
    · cases h
    · rename_i h1
      rw [if_neg h1]; exact refN_gd h fun h0 => absurd h0 (by omega)
  · rw [hr] at h; dsimp only at h ⊢
    split at h
    · cases h
    · rename_i h1
      rw [if_neg h1]; refine refN_gd h fun h0 hz => ?_
      rcases List.eq_nil_or_concat (l.drop k) with e | ⟨i, c, e⟩
      · rw [e] at hr
        cases hr
      · have e' : l.drop k = i ++ [c] := by rw [e]; simp
        have hlen : l.length = k + i.length + 1 := by
          have := congrArg List.length e'; rw [List.length_drop, List.length_append, List.length_singleton] at this; omega
        have hc : l.getLast? = some c := by
          have : l = l.take k ++ (i ++ [c]) := by rw [← e', List.take_append_drop]
          rw [this, ← List.append_assoc, List.getLast?_append]; rfl
        rw [e'] at hr
        rcases rrun_last i k none [] hr with hd | ⟨hq, hd⟩
        · injection hd with hd; exact absurd (.inr (.inl (by omega))) h1
        · rcases D with _ | ⟨x, D⟩
          · cases hd
          · injection hd with hd; subst hd
            have hne : c ≠ 48 := by
              intro e48; rw [hc, e48] at hz
              cases hz
            have q10 := qv_lt hq
            have q0 : qv c ≠ 0 := by
              simp only [dq, Bool.and_eq_true, decide_eq_true_eq] at hq; unfold qv; intro h; apply hne; apply UInt8.toNat_inj.1
              show c.toNat = 48
              omega
            show (qv c + 10 * dval D) % 10 ≠ 0
            omega
theorem okX_gd {x : VX} (h : OkX x) : GdX x := by
  intro m s e
  cases x with
  | blank => injection e with e1 e2; subst e1 e2; exact gd_zero
  | num m' s' => injection e with e1 e2; subst e1 e2; exact h
  | str t =>
    simp only [numX] at e
    split at e
    · rename_i h0
      injection e with e1 e2; subst e1 e2; exact pD_gd h0
    · cases e
  | bool b => exact (pg_bool b).2 m s e
  | err e' => cases e
theorem okX_pg {x : VX} (h : OkX x) (hs : shortX 100000000 x) : PG x := ⟨⟨h, hs⟩, okX_gd h⟩
end Go.Proofs.YtngkolcpbgibcaaGreatDoor
namespace Go.Proofs.YtngkolcpbgibcaaGreatDoor
open Go.RowKit
theorem typesLaw {w : World} (HF : FnT w) (HT : Tens w) (HV : Val w) (k m s : Int) (t : ByteArray) (b : Bool) (e : Int) (m0 : -9223372036854775808 ≤ m) (m1 : m ≤ 9223372036854775807) (n : Nat) (hn : n < 256) :
    Calls Tryz.prog 10 #[.agg #[.int .i64 k, .int .i64 m, .int .i64 s, .string t, .bool b, .int .i64 e], .int .u8 n] w fun x w' => x = .returned (.bool true) ∧ Below w.heap.size w w' := by
  by_cases hl : 1000 < t.size
  · exact types_long HF HT HV k m s t b e n hl
  · have hc : ∀ W : World, Below w.heap.size w W → Calls Tryz.prog 17 #[.agg #[.int .i64 k, .int .i64 m, .int .i64 s, .string t, .bool b, .int .i64 e]] W fun x w' => x = .returned (.int .i64 (ckV k m s t b e)) ∧ Below W.heap.size W w' := fun W hb => check_v (HV.below hb) k m s t b e (by omega)
    by_cases h0 : ckV k m s t b e = 0
    · rw [h0] at hc; obtain ⟨x, hx, hsx, -, e0⟩ := ckV_form h0 m0 m1; rw [e0, xval_vc] at hc ⊢
      have hs : (stX x).size ≤ t.size := by
        cases x with
        | str l => exact hsx
        | _ => exact Nat.zero_le _
      have sx : shortX 100000000 x := by cases x <;> first | trivial | (have : _ ≤ t.size := hsx; show _ ≤ _; omega)
      exact types_good HF HT HV (okX_pg hx sx) (by omega) hc n hn
    · exact types_bad HF HT HV k m s t b e n _ (by omega) h0 hc
end Go.Proofs.YtngkolcpbgibcaaGreatDoor
