/- The reference's AddDec, SubDec, CompareDec by their contracts. Condition: decimals that stand. -/
import Derived.Test.YtmbjmgmnicacpaaGreatDoorAlike
import Derived.Test.YtmbjmgmnicacpaaGreatDoorD2
namespace Go.Proofs.YtmbjmgmnicacpaaGreatDoor
open Go.RowKit

theorem big40 {m : Int} {s j : Nat} (hx : Gd m s) (hj : j ≤ 18) : (m * 10 ^ j).natAbs < 10 ^ 40 := by
  rw [Int.natAbs_mul, Int.natAbs_pow]
  have h1 := hx.lo
  have h2 := hx.hi
  have e1 : 10 ^ j ≤ 10 ^ 18 := Nat.pow_le_pow_right (by omega) hj
  calc m.natAbs * (10 : Int).natAbs ^ j ≤ 10 ^ 20 * 10 ^ 18 := Nat.mul_le_mul (by omega) e1
    _ < 10 ^ 40 := by decide
theorem val_at {m : Int} {s M : Nat} (hs : s ≤ M) (hM : M ≤ 9) : m * 10 ^ (M - s) * 10 ^ (9 - M) = val m s := by
  unfold val
  rw [Int.mul_assoc, ← Int.pow_add, show M - s + (9 - M) = 9 - s by omega]
theorem sum_at {m k : Int} {s t M : Nat} (hs : s ≤ M) (ht : t ≤ M) (hM : M ≤ 9) : tl (m * 10 ^ (M - s) + k * 10 ^ (M - t)) M = addD m s k t := by
  unfold addD
  rw [← val_at hs hM, ← val_at ht hM, ← Int.add_mul]
  have h := tl_up (m * 10 ^ (M - s) + k * 10 ^ (M - t)) M (9 - M)
  rw [show M + (9 - M) = 9 by omega] at h
  exact h.symm
theorem dif_at {m k : Int} {s t M : Nat} (hs : s ≤ M) (ht : t ≤ M) (hM : M ≤ 9) : tl (m * 10 ^ (M - s) + -(k * 10 ^ (M - t))) M = subD m s k t := by
  unfold subD
  rw [← val_at hs hM, ← val_at ht hM, ← Int.sub_mul, ← Int.sub_eq_add_neg]
  have h := tl_up (m * 10 ^ (M - s) - k * 10 ^ (M - t)) M (9 - M)
  rw [show M + (9 - M) = 9 by omega] at h
  exact h.symm
theorem cmp_at {m k : Int} {s t M : Nat} (hs : s ≤ M) (ht : t ≤ M) (hM : M ≤ 9) : cmp (m * 10 ^ (M - s)) (k * 10 ^ (M - t)) = cmp (val m s) (val k t) := by
  rw [← val_at hs hM, ← val_at ht hM]
  generalize m * 10 ^ (M - s) = V
  generalize k * 10 ^ (M - t) = U
  have hp : (0 : Int) < 10 ^ (9 - M) := Int.pow_pos (by omega)
  unfold cmp
  rcases Int.lt_trichotomy V U with h | h | h
  · rw [if_pos h, if_pos (Int.mul_lt_mul_of_pos_right h hp)]
  · rw [h]; simp
  · have h2 := Int.mul_lt_mul_of_pos_right h hp
    rw [if_neg (by omega), if_neg (by omega), if_neg (by omega), if_neg (by omega)]
theorem BigN.neg {w : World} {b : Bool} {A : Option Addr} {n c : Nat} {U : Int} (h : BigN w (.agg #[.bool b, .slice A n c]) U) : BigN w (.agg #[.bool (decide (-U < 0)), .slice A n c]) (-U) := by
  obtain ⟨A', n', c', e, h1, h2, h3⟩ := h
  obtain ⟨e0, rfl, rfl, rfl⟩ : b = decide (U < 0) ∧ A = A' ∧ n = n' ∧ c = c' := by simpa using e
  exact ⟨A, n, c, rfl, h1, h2, by rw [Int.natAbs_neg]; exact h3⟩
theorem BigN.none {w : World} {b : Bool} {A : Option Addr} {n c : Nat} {U : Int} (h : BigN w (.agg #[.bool b, .slice A n c]) U) : b = decide (U < 0) ∧ (n = 0 ↔ U = 0) := by
  obtain ⟨A', n', c', e, h1, h2, h3⟩ := h
  obtain ⟨e0, rfl, rfl, rfl⟩ : b = decide (U < 0) ∧ A = A' ∧ n = n' ∧ c = c' := by simpa using e
  refine ⟨e0, ?_⟩
  have h4 := h3.dlen
  constructor
  · intro h5
    have h6 : digs U.natAbs = [] := List.eq_nil_of_length_eq_zero (by omega)
    have := digs_nil.1 h6
    omega
  · rintro rfl
    rw [h4, show Int.natAbs 0 = 0 from rfl, digs_zero]; rfl

set_option maxHeartbeats 8000000 in
theorem bCmp_any {w : World} {m k : Int} {s t : Nat} (hx : Gd m s) (hy : Gd k t) :
    Calls Tryz.prog 44 #[.agg #[.int .i64 m, .int .i64 (s : Nat)], .agg #[.int .i64 k, .int .i64 (t : Nat)]] w fun e w' => e = .returned (.int .i64 (cmp (val m s) (val k t))) ∧ Below w.heap.size w w' := by
  obtain ⟨M, hM⟩ : ∃ M : Nat, max s t = M := ⟨_, rfl⟩
  obtain ⟨V, hV⟩ : ∃ V : Int, m * 10 ^ (M - s) = V := ⟨_, rfl⟩
  obtain ⟨U, hU⟩ : ∃ U : Int, k * 10 ^ (M - t) = U := ⟨_, rfl⟩
  have hM9 : M ≤ 9 := by have := hx.s9; have := hy.s9; omega
  have lV0 : V.natAbs < 10 ^ 40 := by rw [← hV]; exact big40 hx (by omega)
  have lU0 : U.natAbs < 10 ^ 40 := by rw [← hU]; exact big40 hy (by omega)
  have lV : (digs V.natAbs).length ≤ 500 := Nat.le_trans (digs_len.2 lV0) (by omega)
  have lU : (digs U.natAbs).length ≤ 500 := Nat.le_trans (digs_len.2 lU0) (by omega)
  have HT := Lib.hid (show cmp V U = cmp (val m s) (val k t) by rw [← hV, ← hU]; exact cmp_at (by omega) (by omega) hM9)
  have lZ : (digs (V + -U).natAbs).length ≤ 500 := Nat.le_trans ((digs_len (k := 41)).2 (by omega)) (by omega)
  have HAL : Hid (∀ W : World, Calls Tryz.prog 69 #[.agg #[.int .i64 m, .int .i64 (s : Nat)], .agg #[.int .i64 k, .int .i64 (t : Nat)]] W fun e w' => ∃ x y, e = .returned (.tuple #[x, y, .int .i64 (M : Nat)]) ∧ BigN w' x V ∧ BigN w' y U ∧ Below W.heap.size W w') := Lib.hid (fun W => by
    have := alike_any (w := W) hx.lo hx.hi hy.lo hy.hi hx.s9 hy.s9
    rw [hM, hV, hU] at this
    exact this)
  have HSB : Hid (SB w 2 [(w.heap.size + 1, 27, #[.int .i64 k, .int .i64 (t : Nat)]), (w.heap.size, 27, #[.int .i64 m, .int .i64 (s : Nat)])] ((w.alloc (.cells #[.int .i64 m, .int .i64 (s : Nat)] 27)).alloc (.cells #[.int .i64 k, .int .i64 (t : Nat)] 27))) := Lib.hid
    ((sb1 w 27 #[.int .i64 m, .int .i64 (s : Nat)]).push (by simp) 27 #[.int .i64 k, .int .i64 (t : Nat)])
  clear hx hy hM hV hU lV0 lU0
  go_enter Tryz.func44, Tryz.ntmps44
  go_wp2_with fail
  generalize ((w.alloc (.cells #[.int .i64 m, .int .i64 (s : Nat)] 27)).alloc (.cells #[.int .i64 k, .int .i64 (t : Nat)] 27)) = w0 at *
  refine (HAL.out w0).mono ?_
  rintro e w1 ⟨x, y, rfl, hx1, hy1, hb1⟩
  have hB1 := HSB.out.call hb1
  clear HSB HAL hb1
  have hx2 := hx1
  have hy2 := hy1
  obtain ⟨A1, n1, c1, rfl, -⟩ := hx1
  obtain ⟨A2, n2, c2, rfl, -⟩ := hy1
  generalize decide (V < 0) = b1 at *
  generalize hb2e : decide (U < 0) = b2 at *
  have hyn := hy2.none
  clear hb2e
  by_cases hU : U < 0
  · have hb2 : b2 = true := by rw [hyn.1]; simp <;> omega
    have hb3 : decide (-U < 0) = false := by simp <;> omega
    have hneg := hy2.neg
    rw [hb3] at hneg
    subst hb2
    have hB2 := (hB1.alloc 98 #[.bool b1, .slice A1 n1 c1]).alloc 98 #[.bool false, .slice A2 n2 c2]
    have hbb := bel1 w1 (.cells #[.bool b1, .slice A1 n1 c1] 98) (.cells #[.bool false, .slice A2 n2 c2] 98)
    have hx3 := hx2.below hbb
    have hy3 := hneg.below hbb
    have hB3 := hB2.tail.tail
    clear hx2 hy2 hneg hbb hB2 hB1 hyn hb3
    go_wp2_with fail
    generalize ((w1.alloc (.cells #[.bool b1, .slice A1 n1 c1] 98)).alloc (.cells #[.bool false, .slice A2 n2 c2] 98)) = w2 at *
    refine (add_any' hx3 hy3 lV (by rw [Int.natAbs_neg]; exact lU)).mono ?_
    rintro e w4 ⟨z, rfl, hz4, hb4⟩
    have hB4 := hB3.call hb4
    clear hx3 hy3 hB3 hb4
    generalize hZ : V + -U = Z at *
    obtain ⟨A3, n3, c3, rfl, -⟩ := id hz4
    generalize decide (Z < 0) = b3 at *
    have hzn := hz4.none
    have hbb2 := (Below.refl w4.heap.size w4).alloc (Nat.le_refl _) (.cells #[.bool b3, .slice A3 n3 c3] 98)
    have hbel := hB4.bel.trans (hbb2.mono hB4.bel.size)
    clear hB4 hbb2 hz4
    by_cases hZ0 : Z = 0
    · have hn3 := hzn.2.2 hZ0
      subst hn3
      have hc : cmp V U = 0 := by unfold cmp; rw [if_neg (by omega), if_pos (by omega)]
      have HF := Lib.hid (show Value.int .i64 0 = .int .i64 (cmp (val m s) (val k t)) by rw [← HT.out, hc])
      clear hc hzn hZ0 hZ
      go_wp2
      refine bodyPost_ret (v := .int .i64 0) (by simp [results, Tryz.results44, go_sem]) rfl ⟨by rw [HF.out], hbel⟩
    have hn3 : ¬ n3 = 0 := fun h => hZ0 (hzn.2.1 h)
    have hn3' : ((n3 : Int) == 0) = false := by simp; omega
    by_cases hZn : Z < 0
    · have hb3 : b3 = true := by rw [hzn.1]; simp [hZn]
      subst hb3
      have hc : cmp V U = -1 := by unfold cmp; rw [if_pos (by omega)]
      have HF := Lib.hid (show Value.int .i64 (-1) = .int .i64 (cmp (val m s) (val k t)) by rw [← HT.out, hc])
      clear hzn hc hZn hZ0 hZ
      go_wp2
      refine bodyPost_ret (v := .int .i64 (-1)) (by simp [results, Tryz.results44, go_sem]) rfl ⟨by rw [HF.out], hbel⟩
    · have hb3 : b3 = false := by rw [hzn.1]; simp [hZn]
      subst hb3
      have hc : cmp V U = 1 := by unfold cmp; rw [if_neg (by omega), if_neg (by omega)]
      have HF := Lib.hid (show Value.int .i64 1 = .int .i64 (cmp (val m s) (val k t)) by rw [← HT.out, hc])
      clear hzn hc hZn hZ0 hZ
      go_wp2
      refine bodyPost_ret (v := .int .i64 1) (by simp [results, Tryz.results44, go_sem]) rfl ⟨by rw [HF.out], hbel⟩
  by_cases hU0 : U = 0
  · have hb2 : b2 = false := by rw [hyn.1]; simp <;> omega
    have hb3 : decide (-U < 0) = false := by simp <;> omega
    have hneg := hy2.neg
    rw [hb3] at hneg
    subst hb2
    have hn0 : n2 = 0 := hyn.2.2 hU0
    subst hn0
    have hB2 := (hB1.alloc 98 #[.bool b1, .slice A1 n1 c1]).alloc 98 #[.bool false, .slice A2 0 c2]
    have hbb := bel1 w1 (.cells #[.bool b1, .slice A1 n1 c1] 98) (.cells #[.bool false, .slice A2 0 c2] 98)
    have hx3 := hx2.below hbb
    have hy3 := hneg.below hbb
    have hB3 := hB2.tail.tail
    clear hx2 hy2 hneg hbb hB2 hB1 hyn hb3
    go_wp2_with fail
    generalize ((w1.alloc (.cells #[.bool b1, .slice A1 n1 c1] 98)).alloc (.cells #[.bool false, .slice A2 0 c2] 98)) = w2 at *
    refine (add_any' hx3 hy3 lV (by rw [Int.natAbs_neg]; exact lU)).mono ?_
    rintro e w4 ⟨z, rfl, hz4, hb4⟩
    have hB4 := hB3.call hb4
    clear hx3 hy3 hB3 hb4
    generalize hZ : V + -U = Z at *
    obtain ⟨A3, n3, c3, rfl, -⟩ := id hz4
    generalize decide (Z < 0) = b3 at *
    have hzn := hz4.none
    have hbb2 := (Below.refl w4.heap.size w4).alloc (Nat.le_refl _) (.cells #[.bool b3, .slice A3 n3 c3] 98)
    have hbel := hB4.bel.trans (hbb2.mono hB4.bel.size)
    clear hB4 hbb2 hz4
    by_cases hZ0 : Z = 0
    · have hn3 := hzn.2.2 hZ0
      subst hn3
      have hc : cmp V U = 0 := by unfold cmp; rw [if_neg (by omega), if_pos (by omega)]
      have HF := Lib.hid (show Value.int .i64 0 = .int .i64 (cmp (val m s) (val k t)) by rw [← HT.out, hc])
      clear hc hzn hZ0 hZ
      go_wp2
      refine bodyPost_ret (v := .int .i64 0) (by simp [results, Tryz.results44, go_sem]) rfl ⟨by rw [HF.out], hbel⟩
    have hn3 : ¬ n3 = 0 := fun h => hZ0 (hzn.2.1 h)
    have hn3' : ((n3 : Int) == 0) = false := by simp; omega
    by_cases hZn : Z < 0
    · have hb3 : b3 = true := by rw [hzn.1]; simp [hZn]
      subst hb3
      have hc : cmp V U = -1 := by unfold cmp; rw [if_pos (by omega)]
      have HF := Lib.hid (show Value.int .i64 (-1) = .int .i64 (cmp (val m s) (val k t)) by rw [← HT.out, hc])
      clear hzn hc hZn hZ0 hZ
      go_wp2
      refine bodyPost_ret (v := .int .i64 (-1)) (by simp [results, Tryz.results44, go_sem]) rfl ⟨by rw [HF.out], hbel⟩
    · have hb3 : b3 = false := by rw [hzn.1]; simp [hZn]
      subst hb3
      have hc : cmp V U = 1 := by unfold cmp; rw [if_neg (by omega), if_neg (by omega)]
      have HF := Lib.hid (show Value.int .i64 1 = .int .i64 (cmp (val m s) (val k t)) by rw [← HT.out, hc])
      clear hzn hc hZn hZ0 hZ
      go_wp2
      refine bodyPost_ret (v := .int .i64 1) (by simp [results, Tryz.results44, go_sem]) rfl ⟨by rw [HF.out], hbel⟩
  · have hb2 : b2 = false := by rw [hyn.1]; simp <;> omega
    have hb3 : decide (-U < 0) = true := by simp <;> omega
    have hneg := hy2.neg
    rw [hb3] at hneg
    subst hb2
    have hn0 : 0 < n2 := by
      rcases Nat.eq_zero_or_pos n2 with h | h
      · exact absurd (hyn.2.1 h) hU0
      · exact h
    have hn1 : (0 : Int) < (n2 : Int) := by omega
    have hB2 := (hB1.alloc 98 #[.bool b1, .slice A1 n1 c1]).alloc 98 #[.bool true, .slice A2 n2 c2]
    have hbb := bel1 w1 (.cells #[.bool b1, .slice A1 n1 c1] 98) (.cells #[.bool true, .slice A2 n2 c2] 98)
    have hx3 := hx2.below hbb
    have hy3 := hneg.below hbb
    have hB3 := hB2.tail.tail
    clear hx2 hy2 hneg hbb hB2 hB1 hyn hb3
    go_wp2_with fail
    generalize ((w1.alloc (.cells #[.bool b1, .slice A1 n1 c1] 98)).alloc (.cells #[.bool true, .slice A2 n2 c2] 98)) = w2 at *
    refine (add_any' hx3 hy3 lV (by rw [Int.natAbs_neg]; exact lU)).mono ?_
    rintro e w4 ⟨z, rfl, hz4, hb4⟩
    have hB4 := hB3.call hb4
    clear hx3 hy3 hB3 hb4
    generalize hZ : V + -U = Z at *
    obtain ⟨A3, n3, c3, rfl, -⟩ := id hz4
    generalize decide (Z < 0) = b3 at *
    have hzn := hz4.none
    have hbb2 := (Below.refl w4.heap.size w4).alloc (Nat.le_refl _) (.cells #[.bool b3, .slice A3 n3 c3] 98)
    have hbel := hB4.bel.trans (hbb2.mono hB4.bel.size)
    clear hB4 hbb2 hz4
    by_cases hZ0 : Z = 0
    · have hn3 := hzn.2.2 hZ0
      subst hn3
      have hc : cmp V U = 0 := by unfold cmp; rw [if_neg (by omega), if_pos (by omega)]
      have HF := Lib.hid (show Value.int .i64 0 = .int .i64 (cmp (val m s) (val k t)) by rw [← HT.out, hc])
      clear hc hzn hZ0 hZ
      go_wp2
      refine bodyPost_ret (v := .int .i64 0) (by simp [results, Tryz.results44, go_sem]) rfl ⟨by rw [HF.out], hbel⟩
    have hn3 : ¬ n3 = 0 := fun h => hZ0 (hzn.2.1 h)
    have hn3' : ((n3 : Int) == 0) = false := by simp; omega
    by_cases hZn : Z < 0
    · have hb3 : b3 = true := by rw [hzn.1]; simp [hZn]
      subst hb3
      have hc : cmp V U = -1 := by unfold cmp; rw [if_pos (by omega)]
      have HF := Lib.hid (show Value.int .i64 (-1) = .int .i64 (cmp (val m s) (val k t)) by rw [← HT.out, hc])
      clear hzn hc hZn hZ0 hZ
      go_wp2
      refine bodyPost_ret (v := .int .i64 (-1)) (by simp [results, Tryz.results44, go_sem]) rfl ⟨by rw [HF.out], hbel⟩
    · have hb3 : b3 = false := by rw [hzn.1]; simp [hZn]
      subst hb3
      have hc : cmp V U = 1 := by unfold cmp; rw [if_neg (by omega), if_neg (by omega)]
      have HF := Lib.hid (show Value.int .i64 1 = .int .i64 (cmp (val m s) (val k t)) by rw [← HT.out, hc])
      clear hzn hc hZn hZ0 hZ
      go_wp2
      refine bodyPost_ret (v := .int .i64 1) (by simp [results, Tryz.results44, go_sem]) rfl ⟨by rw [HF.out], hbel⟩
end Go.Proofs.YtmbjmgmnicacpaaGreatDoor
