/- rk: isShort, Fits, Pack, Unpack, and the reference's own, by their contracts. No condition. -/
import Derived.Test.YtafdbdkggogigaaCk
namespace Go.Proofs.Ytafdbdkggogigaa
open Go.RowKit

theorem ck01 (m s : Int) : ckE m s = 0 ∨ ckE m s = 1 := by unfold ckE; split <;> simp

/-- What is in 28 bits. -/
def sh (m : Int) : Bool := decide (-134217728 ≤ m ∧ m ≤ 134217727)
/-- A short number. -/
def rkN (m s : Int) : Int := m % 268435456 * 16 + s
def rkE (m s : Int) : Int := if ckE m s = 0 then (if sh m = true then 0 else 8) else 1
def rkV (m s : Int) : Int := if rkE m s = 0 then rkN m s else 0

theorem or_32 {a b : Nat} (ha : a * 16 < 4294967296) (hb : b < 16) : bits .or .u32 ((a * 16 : Nat) : Int) (b : Nat) = (a * 16 + b : Nat) := by
  show IntKind.u32.wrap ((BitVec.ofInt 32 ((a * 16 : Nat) : Int) ||| BitVec.ofInt 32 ((b : Nat) : Int)).toNat : Int) = _
  have h := Nat.shiftLeft_add_eq_or_of_lt (i := 4) (b := b) hb a
  rw [Nat.shiftLeft_eq] at h
  rw [BitVec.toNat_or, BitVec.ofInt_natCast, BitVec.ofInt_natCast, BitVec.toNat_ofNat, BitVec.toNat_ofNat, Nat.mod_eq_of_lt (by omega), Nat.mod_eq_of_lt (by omega), show a * 16 = a * 2 ^ 4 from rfl, ← h, IntKind.wrap_u32]
  omega

theorem ck_s {m s : Int} (h : ckE m s = 0) : 0 ≤ s ∧ s ≤ 9 := by
  unfold ckE at h
  split at h
  · cases h
  · omega

theorem rk_or {m s : Int} (h : ckE m s = 0) : wrap64 (bits BinOp.or IntKind.u32 (m % 4294967296 * 16 % 4294967296) (s % 4294967296)) = rkN m s := by
  obtain ⟨h0, h9⟩ := ck_s h
  have e1 : m % 4294967296 * 16 % 4294967296 = (((m % 268435456).toNat * 16 : Nat) : Int) := by omega
  have e2 : s % 4294967296 = ((s.toNat : Nat) : Int) := by omega
  rw [e1, e2, or_32 (by omega) (by omega)]
  unfold rkN wrap64
  omega

theorem short_any {w : World} {m : Int} :
    Calls Try.prog 18 #[.int .i64 m] w fun e w' => e = .returned (.bool (sh m)) ∧ w = w' := by
  by_cases h0 : -134217728 ≤ m
  · by_cases h1 : m ≤ 134217727
    · have HV := Lib.hid (show sh m = true by simp [sh, h0, h1])
      go_enter Try.func18, Try.ntmps18
      go_wp2
      go_ret
      exact ⟨by rw [HV.out]; rfl, rfl⟩
    · have HV := Lib.hid (show sh m = false by simp [sh, h1])
      go_enter Try.func18, Try.ntmps18
      go_wp2
      go_ret
      exact ⟨by rw [HV.out]; rfl, rfl⟩
  · have HV := Lib.hid (show sh m = false by simp [sh, h0])
    go_enter Try.func18, Try.ntmps18
    go_wp2
    go_ret
    exact ⟨by rw [HV.out]; rfl, rfl⟩

theorem pack_any {w : World} {m s : Int} :
    Calls Try.prog 8 #[.agg #[.int .i64 m, .int .i64 s]] w fun e w' => e = .returned (.tuple #[.int .i64 (rkV m s), .int .i64 (rkE m s)]) ∧ Below w.heap.size w w' := by
  rcases ck01 m s with hc | hc
  · cases hs : sh m
    · have HV := Lib.hid (show rkE m s = 8 ∧ rkV m s = 0 by simp [rkV, rkE, hc, hs])
      go_enter Try.func8, Try.ntmps8
      go_wp2_with fail
      refine wp_scope_fwd 0 rfl ?_
      go_wp2_with fail
      refine check_any.mono ?_
      rintro e w1 ⟨rfl, hb⟩
      rw [hc]
      obtain ⟨k1, hb', -⟩ := bx1 hb
      clear hb
      have c10 := k1.cell 0
      have c11 := k1.cell 1
      clear k1
      go_wp2_with fail
      refine short_any.mono ?_
      rintro e w2 ⟨rfl, rfl⟩
      rw [hs]
      go_wp2
      go_step3
      refine ⟨rfl, ?_⟩
      show Code.wp _ _ _ _ _
      go_wp2
      rw [Exit.noGoto_ret]
      go_wp2
      go_ret2
      exact ⟨by rw [HV.out.1, HV.out.2]; rfl, hb'⟩
    · have HV := Lib.hid (show rkE m s = 0 ∧ rkV m s = rkN m s by simp [rkV, rkE, hc, hs])
      go_enter Try.func8, Try.ntmps8
      go_wp2_with fail
      refine wp_scope_fwd 0 rfl ?_
      go_wp2_with fail
      refine check_any.mono ?_
      rintro e w1 ⟨rfl, hb⟩
      rw [hc]
      obtain ⟨k1, hb', -⟩ := bx1 hb
      clear hb
      have c10 := k1.cell 0
      have c11 := k1.cell 1
      clear k1
      go_wp2_with fail
      refine short_any.mono ?_
      rintro e w2 ⟨rfl, rfl⟩
      rw [hs]
      go_wp2
      rw [jump_ret]
      go_wp2
      go_ret2
      refine ⟨?_, hb'⟩
      rw [HV.out.1, HV.out.2, ← rk_or hc]
      rfl
  · have HV := Lib.hid (show rkE m s = 1 ∧ rkV m s = 0 by simp [rkV, rkE, hc])
    go_enter Try.func8, Try.ntmps8
    go_wp2_with fail
    refine wp_scope_fwd 0 rfl ?_
    go_wp2_with fail
    refine check_any.mono ?_
    rintro e w1 ⟨rfl, hb⟩
    rw [hc]
    obtain ⟨-, hb', -⟩ := bx1 hb
    clear hb
    go_wp2
    rw [jump_ret]
    go_wp2
    go_ret2
    exact ⟨by rw [HV.out.1, HV.out.2]; rfl, hb'⟩

theorem fits_any {w : World} {m s : Int} :
    Calls Try.prog 11 #[.agg #[.int .i64 m, .int .i64 s]] w fun e w' => e = .returned (.bool (decide (rkE m s = 0))) ∧ Below w.heap.size w w' := by
  rcases ck01 m s with hc | hc
  · cases hs : sh m
    · have HV := Lib.hid (show decide (rkE m s = 0) = false by simp [rkE, hc, hs])
      go_enter Try.func11, Try.ntmps11
      go_wp2_with fail
      refine check_any.mono ?_
      rintro e w1 ⟨rfl, hb⟩
      rw [hc]
      obtain ⟨k1, hb', -⟩ := bx1 hb
      clear hb
      have c10 := k1.cell 0
      have c11 := k1.cell 1
      clear k1
      go_wp2_with fail
      refine short_any.mono ?_
      rintro e w2 ⟨rfl, rfl⟩
      rw [hs]
      go_wp2
      go_ret
      exact ⟨by rw [HV.out]; rfl, hb'⟩
    · have HV := Lib.hid (show decide (rkE m s = 0) = true by simp [rkE, hc, hs])
      go_enter Try.func11, Try.ntmps11
      go_wp2_with fail
      refine check_any.mono ?_
      rintro e w1 ⟨rfl, hb⟩
      rw [hc]
      obtain ⟨k1, hb', -⟩ := bx1 hb
      clear hb
      have c10 := k1.cell 0
      have c11 := k1.cell 1
      clear k1
      go_wp2_with fail
      refine short_any.mono ?_
      rintro e w2 ⟨rfl, rfl⟩
      rw [hs]
      go_wp2
      go_ret
      exact ⟨by rw [HV.out]; rfl, hb'⟩
  · have HV := Lib.hid (show decide (rkE m s = 0) = false by simp [rkE, hc])
    go_enter Try.func11, Try.ntmps11
    go_wp2_with fail
    refine check_any.mono ?_
    rintro e w1 ⟨rfl, hb⟩
    rw [hc]
    obtain ⟨k1, hb', -⟩ := bx1 hb
    clear hb
    go_wp2
    go_ret
    exact ⟨by rw [HV.out]; rfl, hb'⟩

theorem of_any {w : World} {m s : Int} :
    Calls Try.prog 10 #[.agg #[.int .i64 m, .int .i64 s]] w fun e w' => e = .returned (.agg #[.int .i64 m, .int .i64 s]) ∧ Below w.heap.size w w' := by
  go_enter Try.func10, Try.ntmps10
  go_wp2
  refine bodyPost_ret (v := .agg #[.int .i64 m, .int .i64 s]) (by simp [results, Try.results10, go_sem]) rfl ⟨rfl, bel1 _ _ _⟩
end Go.Proofs.Ytafdbdkggogigaa
