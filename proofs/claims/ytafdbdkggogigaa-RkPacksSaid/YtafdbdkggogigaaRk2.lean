/- rk: Unpack, and the reference's Fits, Pack, Unpack by their contracts. No condition. -/
import Derived.Test.YtafdbdkggogigaaRk
namespace Go.Proofs.Ytafdbdkggogigaa
open Go.RowKit

theorem bFits_any {w : World} {m s : Int} :
    Calls Try.prog 12 #[.agg #[.int .i64 m, .int .i64 s]] w fun e w' => e = .returned (.bool (decide (rkE m s = 0))) ∧ Below w.heap.size w w' := by
  rcases ck01 m s with hc | hc
  · by_cases h0 : -134217728 ≤ m
    · by_cases h1 : m < 134217728
      · have HV := Lib.hid (show decide (rkE m s = 0) = true by simp [rkE, hc, sh, h0, show m ≤ 134217727 by omega])
        go_enter Try.func12, Try.ntmps12
        go_wp2_with fail
        refine bCheck_any.mono ?_
        rintro e w1 ⟨rfl, hb⟩
        rw [hc]
        obtain ⟨k1, hb', -⟩ := bx1 hb
        clear hb
        have c10 := k1.cell 0
        have c11 := k1.cell 1
        clear k1
        go_wp2
        go_ret
        exact ⟨by rw [HV.out]; rfl, hb'⟩
      · have HV := Lib.hid (show decide (rkE m s = 0) = false by simp [rkE, hc, sh, show ¬ m ≤ 134217727 by omega])
        go_enter Try.func12, Try.ntmps12
        go_wp2_with fail
        refine bCheck_any.mono ?_
        rintro e w1 ⟨rfl, hb⟩
        rw [hc]
        obtain ⟨k1, hb', -⟩ := bx1 hb
        clear hb
        have c10 := k1.cell 0
        have c11 := k1.cell 1
        clear k1
        go_wp2
        go_ret
        refine ⟨?_, hb'⟩
        rw [HV.out]
        show Ending.returned (.bool (decide (m < 134217728))) = _
        rw [show decide (m < 134217728) = false by simp; omega]
    · have HV := Lib.hid (show decide (rkE m s = 0) = false by simp [rkE, hc, sh, h0])
      go_enter Try.func12, Try.ntmps12
      go_wp2_with fail
      refine bCheck_any.mono ?_
      rintro e w1 ⟨rfl, hb⟩
      rw [hc]
      obtain ⟨k1, hb', -⟩ := bx1 hb
      clear hb
      have c10 := k1.cell 0
      have c11 := k1.cell 1
      clear k1
      go_wp2
      go_ret
      exact ⟨by rw [HV.out]; rfl, hb'⟩
  · have HV := Lib.hid (show decide (rkE m s = 0) = false by simp [rkE, hc])
    go_enter Try.func12, Try.ntmps12
    go_wp2_with fail
    refine bCheck_any.mono ?_
    rintro e w1 ⟨rfl, hb⟩
    rw [hc]
    obtain ⟨k1, hb', -⟩ := bx1 hb
    clear hb
    go_wp2
    go_ret
    exact ⟨by rw [HV.out]; rfl, hb'⟩

theorem bPack_any {w : World} {m s : Int} :
    Calls Try.prog 9 #[.agg #[.int .i64 m, .int .i64 s]] w fun e w' => e = .returned (.tuple #[.int .i64 (rkV m s), .int .i64 (rkE m s)]) ∧ Below w.heap.size w w' := by
  rcases ck01 m s with hc | hc
  · cases hs : sh m
    · have HV := Lib.hid (show rkE m s = 8 ∧ rkV m s = 0 by simp [rkV, rkE, hc, hs])
      go_enter Try.func9, Try.ntmps9
      go_wp2_with fail
      refine bCheck_any.mono ?_
      rintro e w1 ⟨rfl, hb⟩
      rw [hc]
      obtain ⟨k1, hb', hsz⟩ := bx1 hb
      clear hb
      have c10 := k1.cell 0
      have c11 := k1.cell 1
      go_wp2_with fail
      refine bFits_any.mono ?_
      rintro e w2 ⟨rfl, hb⟩
      rw [HV.out.1]
      have hb2 := hb'.trans (hb.mono (by omega))
      clear hb hb' c10 c11 k1
      go_wp2
      go_ret2
      exact ⟨by rw [HV.out.1, HV.out.2]; rfl, hb2⟩
    · have HV := Lib.hid (show rkE m s = 0 ∧ rkV m s = rkN m s by simp [rkV, rkE, hc, hs])
      go_enter Try.func9, Try.ntmps9
      go_wp2_with fail
      refine bCheck_any.mono ?_
      rintro e w1 ⟨rfl, hb⟩
      rw [hc]
      obtain ⟨k1, hb', hsz⟩ := bx1 hb
      clear hb
      have c10 := k1.cell 0
      have c11 := k1.cell 1
      go_wp2_with fail
      refine bFits_any.mono ?_
      rintro e w2 ⟨rfl, hb⟩
      rw [HV.out.1]
      have k2 := k1.below hb (by omega)
      have c20 := k2.cell 0
      have c21 := k2.cell 1
      have hb2 := hb'.trans (hb.mono (by omega))
      clear hb hb' c10 c11 k1 k2
      go_wp2
      go_ret2
      refine ⟨?_, hb2⟩
      rw [HV.out.1, HV.out.2, ← rk_or hc]
      rfl
  · have HV := Lib.hid (show rkE m s = 1 ∧ rkV m s = 0 by simp [rkV, rkE, hc])
    go_enter Try.func9, Try.ntmps9
    go_wp2_with fail
    refine bCheck_any.mono ?_
    rintro e w1 ⟨rfl, hb⟩
    rw [hc]
    obtain ⟨-, hb', -⟩ := bx1 hb
    clear hb
    go_wp2
    go_ret2
    exact ⟨by rw [HV.out.1, HV.out.2]; rfl, hb'⟩

/-- A short number, told: its M, its S. -/
def uM (n : Int) : Int := (if n < 2147483648 then n else n - 4294967296) / 16
def uS (n : Int) : Int := n % 16
def uE (n : Int) : Int := if n < 0 ∨ 4294967295 < n then 1 else ckE (uM n) (uS n)
def uV (n : Int) : Value := if uE n = 0 then .agg #[.int .i64 (uM n), .int .i64 (uS n)] else .agg #[.int .i64 0, .int .i64 0]

theorem and_15 {n : Nat} (h : n < 18446744073709551616) : bits .and .i64 (n : Int) 15 = ((n % 16 : Nat) : Int) := by
  show IntKind.i64.wrap ((BitVec.ofInt 64 (n : Int) &&& BitVec.ofInt 64 ((15 : Nat) : Int)).toNat : Int) = _
  rw [BitVec.toNat_and, BitVec.ofInt_natCast, BitVec.ofInt_natCast, BitVec.toNat_ofNat, BitVec.toNat_ofNat, Nat.mod_eq_of_lt (by omega), Nat.mod_eq_of_lt (by omega), show (15 : Nat) = 2 ^ 4 - 1 from rfl, Nat.and_two_pow_sub_one_eq_mod]
  exact IntWalk.i64_in _ (by omega)
theorem uM_eq {n : Int} (h0 : ¬ n < 0) (h1 : ¬ 4294967295 < n) : wrap64 (wrap32 n / 16) = uM n := by
  unfold wrap64 wrap32 uM
  split <;> omega
theorem uS_eq {n : Int} (h0 : ¬ n < 0) (h1 : ¬ 4294967295 < n) : bits .and .i64 n 15 = uS n := by
  obtain ⟨k, rfl⟩ := Int.eq_ofNat_of_zero_le (show 0 ≤ n by omega)
  rw [and_15 (by omega)]
  rfl

theorem unpack_any {w : World} {n : Int} :
    Calls Try.prog 13 #[.int .i64 n] w fun e w' => e = .returned (.tuple #[uV n, .int .i64 (uE n)]) ∧ Below w.heap.size w w' := by
  by_cases h0 : n < 0
  · have HV := Lib.hid (show uE n = 1 ∧ uV n = .agg #[.int .i64 0, .int .i64 0] by simp [uV, uE, h0])
    go_enter Try.func13, Try.ntmps13
    go_wp2_with fail
    refine wp_scope_fwd 0 rfl ?_
    go_wp2
    go_step3
    refine ⟨rfl, ?_⟩
    show Code.wp _ _ _ _ _
    go_wp2
    rw [Exit.noGoto_ret]
    refine bodyPost_ret (v := .tuple #[.agg #[.int .i64 0, .int .i64 0], .int .i64 1]) (by simp [results, Try.results13, go_sem]) rfl ⟨by rw [HV.out.1, HV.out.2], bel1 _ _ _⟩
  · by_cases h1 : 4294967295 < n
    · have HV := Lib.hid (show uE n = 1 ∧ uV n = .agg #[.int .i64 0, .int .i64 0] by simp [uV, uE, h1])
      go_enter Try.func13, Try.ntmps13
      go_wp2_with fail
      refine wp_scope_fwd 0 rfl ?_
      go_wp2
      go_step3
      refine ⟨rfl, ?_⟩
      show Code.wp _ _ _ _ _
      go_wp2
      rw [Exit.noGoto_ret]
      refine bodyPost_ret (v := .tuple #[.agg #[.int .i64 0, .int .i64 0], .int .i64 1]) (by simp [results, Try.results13, go_sem]) rfl ⟨by rw [HV.out.1, HV.out.2], bel1 _ _ _⟩
    · have HM := Lib.hid (uM_eq h0 h1)
      have HS := Lib.hid (uS_eq h0 h1)
      rcases ck01 (uM n) (uS n) with hc | hc
      · have HV := Lib.hid (show uE n = 0 ∧ uV n = .agg #[.int .i64 (uM n), .int .i64 (uS n)] by simp [uV, uE, h0, h1, hc])
        go_enter Try.func13, Try.ntmps13
        go_wp2_with fail
        refine wp_scope_fwd 0 rfl ?_
        go_wp2_with fail
        refine check_any.mono ?_
        rintro e w1 ⟨rfl, hb⟩
        rw [HM.out, HS.out] at hb ⊢
        rw [hc]
        clear HM HS hc
        generalize uM n = m at *
        generalize uS n = s at *
        obtain ⟨k1, k2, hb', hsz⟩ := bx2 hb
        clear hb
        have c10 := k1.cell 0
        have c11 := k1.cell 1
        have z10 := k1.frozen 0
        have z11 := k1.frozen 1
        have c20 := k2.cell 0
        have c21 := k2.cell 1
        clear k1 k2
        go_wp2
        rw [jump_ret]
        refine bodyPost_ret (v := .tuple #[.agg #[.int .i64 m, .int .i64 s], .int .i64 0]) ?_ rfl ⟨by rw [HV.out.1, HV.out.2], (hb'.setCell (by simp) _).setCell (by simp) _⟩
        simp [results, Try.results13, go_sem, c10, c11]
      · have HV := Lib.hid (show uE n = 1 ∧ uV n = .agg #[.int .i64 0, .int .i64 0] by simp [uV, uE, h0, h1, hc])
        go_enter Try.func13, Try.ntmps13
        go_wp2_with fail
        refine wp_scope_fwd 0 rfl ?_
        go_wp2_with fail
        refine check_any.mono ?_
        rintro e w1 ⟨rfl, hb⟩
        rw [HM.out, HS.out] at hb ⊢
        rw [hc]
        clear HM HS hc
        generalize uM n = m at *
        generalize uS n = s at *
        obtain ⟨k1, k2, hb', hsz⟩ := bx2 hb
        clear hb
        have c10 := k1.cell 0
        have c11 := k1.cell 1
        have z10 := k1.frozen 0
        have z11 := k1.frozen 1
        have c20 := k2.cell 0
        have c21 := k2.cell 1
        clear k1 k2
        go_wp2
        go_step3
        refine ⟨rfl, ?_⟩
        show Code.wp _ _ _ _ _
        go_wp2
        rw [Exit.noGoto_ret]
        refine bodyPost_ret (v := .tuple #[.agg #[.int .i64 0, .int .i64 0], .int .i64 1]) ?_ rfl ⟨by rw [HV.out.1, HV.out.2], (hb'.setCell (by simp) _).setCell (by simp) _⟩
        simp [results, Try.results13, go_sem, c10, c11]

theorem bUnpack_any {w : World} {n : Int} :
    Calls Try.prog 14 #[.int .i64 n] w fun e w' => e = .returned (.tuple #[uV n, .int .i64 (uE n)]) ∧ Below w.heap.size w w' := by
  by_cases h0 : n < 0
  · have HV := Lib.hid (show uE n = 1 ∧ uV n = .agg #[.int .i64 0, .int .i64 0] by simp [uV, uE, h0])
    go_enter Try.func14, Try.ntmps14
    go_wp2
    refine bodyPost_ret (v := .tuple #[.agg #[.int .i64 0, .int .i64 0], .int .i64 1]) (by simp [results, Try.results14, go_sem]) rfl ⟨by rw [HV.out.1, HV.out.2], bel0 _ _⟩
  · by_cases h1 : 4294967295 < n
    · have HV := Lib.hid (show uE n = 1 ∧ uV n = .agg #[.int .i64 0, .int .i64 0] by simp [uV, uE, h1])
      go_enter Try.func14, Try.ntmps14
      go_wp2
      refine bodyPost_ret (v := .tuple #[.agg #[.int .i64 0, .int .i64 0], .int .i64 1]) (by simp [results, Try.results14, go_sem]) rfl ⟨by rw [HV.out.1, HV.out.2], bel0 _ _⟩
    · have HM := Lib.hid (uM_eq h0 h1)
      have HS := Lib.hid (uS_eq h0 h1)
      rcases ck01 (uM n) (uS n) with hc | hc
      · have HV := Lib.hid (show uE n = 0 ∧ uV n = .agg #[.int .i64 (uM n), .int .i64 (uS n)] by simp [uV, uE, h0, h1, hc])
        go_enter Try.func14, Try.ntmps14
        go_wp2_with fail
        refine bCheck_any.mono ?_
        rintro e w1 ⟨rfl, hb⟩
        rw [HM.out, HS.out] at hb ⊢
        rw [hc]
        clear HM HS hc
        generalize uM n = m at *
        generalize uS n = s at *
        obtain ⟨k1, k2, hb', hsz⟩ := bx2 hb
        clear hb
        have c10 := k1.cell 0
        have c11 := k1.cell 1
        have z10 := k1.frozen 0
        have z11 := k1.frozen 1
        have c20 := k2.cell 0
        have c21 := k2.cell 1
        clear k1 k2
        go_wp2
        refine bodyPost_ret (v := .tuple #[.agg #[.int .i64 m, .int .i64 s], .int .i64 0]) ?_ rfl ⟨by rw [HV.out.1, HV.out.2], (hb'.setCell (by simp) _).setCell (by simp) _⟩
        simp [results, Try.results14, go_sem, c10, c11]
      · have HV := Lib.hid (show uE n = 1 ∧ uV n = .agg #[.int .i64 0, .int .i64 0] by simp [uV, uE, h0, h1, hc])
        go_enter Try.func14, Try.ntmps14
        go_wp2_with fail
        refine bCheck_any.mono ?_
        rintro e w1 ⟨rfl, hb⟩
        rw [HM.out, HS.out] at hb ⊢
        rw [hc]
        clear HM HS hc
        generalize uM n = m at *
        generalize uS n = s at *
        obtain ⟨k1, k2, hb', hsz⟩ := bx2 hb
        clear hb
        have c10 := k1.cell 0
        have c11 := k1.cell 1
        have z10 := k1.frozen 0
        have z11 := k1.frozen 1
        have c20 := k2.cell 0
        have c21 := k2.cell 1
        clear k1 k2
        go_wp2
        refine bodyPost_ret (v := .tuple #[.agg #[.int .i64 0, .int .i64 0], .int .i64 1]) ?_ rfl ⟨by rw [HV.out.1, HV.out.2], (hb'.setCell (by simp) _).setCell (by simp) _⟩
        simp [results, Try.results14, go_sem, c10, c11]
end Go.Proofs.Ytafdbdkggogigaa
