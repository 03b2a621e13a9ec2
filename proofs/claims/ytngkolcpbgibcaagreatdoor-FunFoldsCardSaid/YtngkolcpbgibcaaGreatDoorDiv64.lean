/- dec's whole numbers of 128 bits: widen, narrow, power, isZero, sign, negate, smaller by their contracts. Condition: within the bits. -/
/- dec's whole numbers of 128 bits: sign, times, add, grow by their contracts. Condition: within the bits. -/
/- One digit (of 32 bits) of a quotient of 128 bits by 64: what is guessed and put right. No program; no condition. -/
/- A division of 128 bits by 64, plainly: what is shifted, halved, joined on the way. No program; no condition. -/
/- math/bits.Div64 by its contract: the quotient and the rest of a number of 128 bits by one of 64. Condition: the higher half below the divisor. -/
import Derived.Test.YtngkolcpbgibcaaGreatDoorArg
import Derived.Test.YtngkolcpbgibcaaGreatDoorWide
import Derived.RegionTactic
import Derived.BigRegion
import Derived.Test.YtngkolcpbgibcaaGreatDoorJoin
import Derived.Shelf.Spec.BitsCarry
import Derived.IntWalk
import Derived.Lib.BitFns
import Derived.Laws.BitsAllLaws
import Derived.Deep.CutBlock
set_option linter.unusedVariables false
set_option linter.unusedSimpArgs false
namespace Go.Proofs.YtngkolcpbgibcaaGreatDoor
open Go.RowKit
def hi (n : Nat) : Nat := n / 18446744073709551616
def lo (n : Nat) : Nat := n % 18446744073709551616
theorem lo_lt (n : Nat) : lo n < 18446744073709551616 := Nat.mod_lt _ (by decide)
theorem hi_lt {n : Nat} (h : n < 340282366920938463463374607431768211456) : hi n < 18446744073709551616 := by unfold hi; omega
theorem hi_lo (n : Nat) : hi n * 18446744073709551616 + lo n = n := by unfold hi lo; omega
theorem hi_small {n : Nat} (h : n < 18446744073709551616) : hi n = 0 := by unfold hi; omega
theorem lo_small {n : Nat} (h : n < 18446744073709551616) : lo n = n := by unfold lo; omega
def wd (b : Bool) (n : Nat) : Value := .agg #[.bool b, .int .u64 (hi n : Nat), .int .u64 (lo n : Nat)]
theorem wd_small {b : Bool} {n : Nat} (h : n < 18446744073709551616) : wd b n = .agg #[.bool b, .int .u64 0, .int .u64 (n : Nat)] := by
  unfold wd; rw [hi_small h, lo_small h]; rfl
theorem wd_parts (b : Bool) (n : Nat) : wd b n = .agg #[.bool b, .int .u64 (hi n : Nat), .int .u64 (lo n : Nat)] := rfl
theorem bel0 (w : World) (o : Obj) : Below w.heap.size w (w.alloc o) := (Below.refl _ _).alloc (Nat.le_refl _) o
theorem bel1 (w : World) (o o' : Obj) : Below w.heap.size w ((w.alloc o).alloc o') := (bel0 w o).alloc (by simp) o'
theorem bel2 (w : World) (o o' o'' : Obj) : Below w.heap.size w (((w.alloc o).alloc o').alloc o'') := (bel1 w o o').alloc (by simp; omega) o''
theorem bx2 {w w1 : World} {T T' : TypeId} {cs cs' : Array Value} (hb : Below ((w.alloc (.cells cs T)).alloc (.cells cs' T')).heap.size ((w.alloc (.cells cs T)).alloc (.cells cs' T')) w1) :
    Bk w1 w.heap.size T cs ∧ Bk w1 (w.heap.size + 1) T' cs' ∧ Below w.heap.size w w1 ∧ w.heap.size + 2 ≤ w1.heap.size := by
  have k2 := (Bk.new (w.alloc (.cells cs T)) T' cs').below hb (by simp); simp only [World.size_alloc] at k2; exact ⟨((Bk.new w T cs).alloc _).below hb (by simp; omega), k2, (bel1 w _ _).trans (hb.mono (by simp; omega)), by have := hb.size; simp at this; omega⟩
theorem bx3 {w w1 : World} {T T' T'' : TypeId} {cs cs' cs'' : Array Value} (hb : Below (((w.alloc (.cells cs T)).alloc (.cells cs' T')).alloc (.cells cs'' T'')).heap.size (((w.alloc (.cells cs T)).alloc (.cells cs' T')).alloc (.cells cs'' T'')) w1) :
    Bk w1 w.heap.size T cs ∧ Bk w1 (w.heap.size + 1) T' cs' ∧ Bk w1 (w.heap.size + 1 + 1) T'' cs'' ∧ Below w.heap.size w w1 ∧ w.heap.size + 3 ≤ w1.heap.size := by
  have k2 := ((Bk.new (w.alloc (.cells cs T)) T' cs').alloc (.cells cs'' T'')).below hb (by simp); have k3 := (Bk.new ((w.alloc (.cells cs T)).alloc (.cells cs' T')) T'' cs'').below hb (by simp); simp only [World.size_alloc] at k2 k3; exact ⟨(((Bk.new w T cs).alloc _).alloc _).below hb (by simp; omega), k2, k3, (bel2 w _ _ _).trans (hb.mono (by simp; omega)), by have := hb.size; simp at this; omega⟩
theorem widen_any {w : World} {m : Int} (h0 : -9223372036854775808 ≤ m) (h1 : m ≤ 9223372036854775807) :
    Calls Tryz.prog 88 #[.int .i64 m] w fun e w' => e = .returned (wd (decide (m < 0)) m.natAbs) ∧ Below w.heap.size w w' := by
  by_cases h : m < 0
  · have HV := Lib.hid (show wd (decide (m < 0)) m.natAbs = .agg #[.bool true, .int .u64 0, .int .u64 (IntKind.u64.wrap (-IntKind.u64.wrap m))] by
      rw [wd_small (by omega), decide_eq_true h, IntKind.wrap_u64, IntKind.wrap_u64, show ((m.natAbs : Nat) : Int) = -(m % 18446744073709551616) % 18446744073709551616 by omega])
    go_enter Tryz.func88, Tryz.ntmps88; go_wp2; refine bodyPost_ret (v := .agg #[.bool true, .int .u64 0, .int .u64 (IntKind.u64.wrap (-IntKind.u64.wrap m))]) (by simp [results, Tryz.results88, go_sem]) rfl ⟨by rw [HV.out], bel0 _ _⟩
  · have HV := Lib.hid (show wd (decide (m < 0)) m.natAbs = .agg #[.bool false, .int .u64 0, .int .u64 m] by
      rw [wd_small (by omega), decide_eq_false h, show ((m.natAbs : Nat) : Int) = m by omega])
    go_enter Tryz.func88, Tryz.ntmps88; go_wp2; refine bodyPost_ret (v := .agg #[.bool false, .int .u64 0, .int .u64 m]) (by simp [results, Tryz.results88, go_sem]) rfl ⟨by rw [HV.out], bel0 _ _⟩
def nrw (b : Bool) (n : Nat) : Bool := decide (n ≤ most b)
def nrv (b : Bool) (n : Nat) : Int := if n ≤ most b then sgn b n else 0
theorem narrow_any {w : World} {b : Bool} {n : Nat} (hn : n < 340282366920938463463374607431768211456) :
    Calls Tryz.prog 162 #[wd b n] w fun e w' => e = .returned (.tuple #[.int .i64 (nrv b n), .bool (nrw b n)]) ∧ Below w.heap.size w w' := by
  have hl := lo_lt n; have hh := hi_lt hn; have hhl := hi_lo n; unfold wd
  by_cases h : 0 < hi n
  · have HV := Lib.hid (show nrv b n = 0 ∧ nrw b n = false by unfold nrv nrw most; cases b <;> simp <;> omega); generalize hi n = p at *; generalize lo n = q at *; have h' : (0 : Int) < (p : Int) := by omega
    clear hhl
    cases b
    all_goals
      go_enter Tryz.func162, Tryz.ntmps162; go_wp2
      go_ret2
      exact ⟨by rw [HV.out.1, HV.out.2]; rfl, bel0 _ _⟩
  · have h0 : hi n = 0 := by omega
    have hq : lo n = n := by omega
    rw [h0, hq]
    by_cases hm : n ≤ most b
    · have HV := Lib.hid (show nrv b n = sgn b n ∧ nrw b n = true by unfold nrv nrw; simp [hm]); clear h0 hq hhl hh h; rw [show lo n = n by unfold lo at hl ⊢; cases b <;> simp [most] at hm <;> omega] at hl
      cases b
      · have hm' : (n : Int) ≤ 9223372036854775807 := by simp [most] at hm; omega
        go_enter Tryz.func162, Tryz.ntmps162; go_wp2
        go_ret2
        refine ⟨?_, bel0 _ _⟩; rw [HV.out.1, HV.out.2]; simp [sgn]
      · have hm' : (n : Int) ≤ 9223372036854775808 := by simp [most] at hm; omega
        have HE := Lib.hid (show wrap64 (IntKind.u64.wrap (-(n : Int))) = -(n : Int) by rw [IntKind.wrap_u64]; unfold wrap64; omega); go_enter Tryz.func162, Tryz.ntmps162; go_wp2
        go_ret2
        refine ⟨?_, bel0 _ _⟩; rw [HV.out.1, HV.out.2]; simp [sgn, HE.out]
    · have HV := Lib.hid (show nrv b n = 0 ∧ nrw b n = false by unfold nrv nrw; simp [hm]); clear h0 hq hhl hh h; have hl2 : n < 340282366920938463463374607431768211456 := hn
      cases b
      · have hm' : (9223372036854775807 : Int) < (n : Int) := by simp [most] at hm; omega
        go_enter Tryz.func162, Tryz.ntmps162; go_wp2
        go_ret2
        exact ⟨by rw [HV.out.1, HV.out.2]; rfl, bel0 _ _⟩
      · have hm' : (9223372036854775808 : Int) < (n : Int) := by simp [most] at hm; omega
        go_enter Tryz.func162, Tryz.ntmps162; go_wp2
        go_ret2
        exact ⟨by rw [HV.out.1, HV.out.2]; rfl, bel0 _ _⟩
theorem pow10_le {k m : Nat} (h : k ≤ m) : 10 ^ k ≤ 10 ^ m := Nat.pow_le_pow_right (by omega) h
theorem power_any {w : World} {k : Nat} (hk : k ≤ 19) :
    Calls Tryz.prog 96 #[.int .i64 k] w fun e w' => e = .returned (.int .u64 (10 ^ k : Nat)) ∧ w = w' := by
  go_enter Tryz.func96, Tryz.ntmps96; go_wp2
  go_loop [3, 5] (fun p i => ∃ j : Nat, j ≤ k ∧ i = .int .i64 j ∧ p = .int .u64 (10 ^ j : Nat)) (fun _ i => k - (intOf i).toNat)
  case atStart => exact ⟨0, Nat.zero_le _, rfl, rfl⟩
  case round =>
    obtain ⟨j, hj, rfl, rfl⟩ := hrel
    by_cases hjk : j < k
    · have hjk' : (j : Int) < (k : Int) := by omega
      have h1 : 10 ^ (j + 1) ≤ 10 ^ 19 := pow10_le (by omega); have h2 : 10 ^ (j + 1) = 10 ^ j * 10 := Nat.pow_succ ..; have H2 := Lib.hid h2; have h3 : 10 ^ j * 10 ≤ 10000000000000000000 := by rw [← h2]; exact h1
      clear h1 h2; generalize 10 ^ j = x at *; go_wp2
      go_round
      case rel => exact ⟨j + 1, by omega, by go_num, by rw [H2.out]; go_num⟩
      case measure => simp [intOf]; omega
    · have : j = k := by omega
      subst this; go_wp2; go_ret; exact ⟨rfl, rfl⟩
theorem isZero_any {w : World} {b : Bool} {n : Nat} :
    Calls Tryz.prog 163 #[wd b n] w fun e w' => e = .returned (.bool (decide (n = 0))) ∧ Below w.heap.size w w' := by
  have hhl := hi_lo n; unfold wd
  by_cases h0 : hi n = 0
  · by_cases h1 : lo n = 0
    · have HV := Lib.hid (show decide (n = 0) = true by simp; omega); rw [h0, h1]; clear hhl h0 h1; go_enter Tryz.func163, Tryz.ntmps163; go_wp2; go_ret; exact ⟨by rw [HV.out]; rfl, bel0 _ _⟩
    · have HV := Lib.hid (show decide (n = 0) = false by simp; omega); rw [h0]; have h1' : (((lo n : Nat) : Int) == 0) = false := by simp; omega
      clear hhl h0 h1; generalize lo n = q at *; go_enter Tryz.func163, Tryz.ntmps163; go_wp2; go_ret; exact ⟨by rw [HV.out]; rfl, bel0 _ _⟩
  · have HV := Lib.hid (show decide (n = 0) = false by simp; omega); have h1' : (((hi n : Nat) : Int) == 0) = false := by simp; omega
    clear hhl h0; generalize lo n = q at *; generalize hi n = p at *; go_enter Tryz.func163, Tryz.ntmps163; go_wp2; go_ret; exact ⟨by rw [HV.out]; rfl, bel0 _ _⟩
theorem negate_any {w : World} {b : Bool} {n : Nat} :
    Calls Tryz.prog 93 #[wd b n] w fun e w' => e = .returned (wd (!b) n) ∧ Below w.heap.size w w' := by
  unfold wd; generalize lo n = q; generalize hi n = p; go_enter Tryz.func93, Tryz.ntmps93; go_wp2; refine bodyPost_ret (v := .agg #[.bool (!b), .int .u64 (p : Nat), .int .u64 (q : Nat)]) (by simp [results, Tryz.results93, go_sem]) rfl ⟨rfl, bel1 _ _ _⟩
theorem smaller_any {w : World} {a b : Bool} {m n : Nat} :
    Calls Tryz.prog 165 #[wd a m, wd b n] w fun e w' => e = .returned (.bool (decide (m < n))) ∧ Below w.heap.size w w' := by
  have hm := hi_lo m; have hn := hi_lo n; have hm2 := lo_lt m; have hn2 := lo_lt n; unfold wd
  by_cases h0 : hi m < hi n
  · have HV := Lib.hid (show decide (m < n) = true by simp; omega); clear hm hn hm2 hn2; generalize lo n = q; generalize hi n = p at *; generalize lo m = s; generalize hi m = r at *; have h0' : (r : Int) < (p : Int) := by omega
    go_enter Tryz.func165, Tryz.ntmps165; go_wp2; go_ret; exact ⟨by rw [HV.out]; rfl, bel1 _ _ _⟩
  · by_cases h1 : hi m = hi n
    · rw [h1]
      by_cases h2 : lo m < lo n
      · have HV := Lib.hid (show decide (m < n) = true by simp; omega); clear hm hn hm2 hn2 h0 h1; generalize lo n = q at *; generalize hi n = p at *; generalize lo m = s at *; have h0' : (s : Int) < (q : Int) := by omega
        go_enter Tryz.func165, Tryz.ntmps165; go_wp2; go_ret; exact ⟨by rw [HV.out]; rfl, bel1 _ _ _⟩
      · have HV := Lib.hid (show decide (m < n) = false by simp; omega); clear hm hn hm2 hn2 h0 h1; generalize lo n = q at *; generalize hi n = p at *; generalize lo m = s at *; have h0' : ¬ (s : Int) < (q : Int) := by omega
        go_enter Tryz.func165, Tryz.ntmps165; go_wp2; go_ret; exact ⟨by rw [HV.out]; rfl, bel1 _ _ _⟩
    · have HV := Lib.hid (show decide (m < n) = false by simp; omega); clear hm hn hm2 hn2; generalize lo n = q at *; generalize hi n = p at *; generalize lo m = s at *; generalize hi m = r at *; have h0' : ¬ (r : Int) < (p : Int) := by omega
      have h1' : ((r : Int) == (p : Int)) = false := by simp; omega
      clear h0 h1; go_enter Tryz.func165, Tryz.ntmps165; go_wp2; go_ret; exact ⟨by rw [HV.out]; rfl, bel1 _ _ _⟩
end Go.Proofs.YtngkolcpbgibcaaGreatDoor
namespace Go.Proofs.YtngkolcpbgibcaaGreatDoor
open Go.RowKit
theorem add64_run (x y c : Nat) (hc : c ≤ 1) (w : World) :
    (callFunc 164 #[.int .u64 x, .int .u64 y, .int .u64 c]).run Tryz.prog w = .ok (.value (.tuple #[.int .u64 (((x + y + c) % 18446744073709551616 : Nat) : Int), .int .u64 (((x + y + c) / 18446744073709551616 : Nat) : Int)])) w := by
  rw [run_callFunc_extern Tryz.func164 (by kernel_rfl) (by kernel_rfl) (by kernel_rfl) (e := add64Entry) (by kernel_rfl), run_add64 x y c (by omega) (by omega) (by omega) (by omega)]; simp only [Result.andThen]
  congr 5 <;> omega
theorem sub64_run (x y c : Nat) (hc : c ≤ 1) (w : World) :
    (callFunc 166 #[.int .u64 x, .int .u64 y, .int .u64 c]).run Tryz.prog w = .ok (.value (.tuple #[.int .u64 (((x + 18446744073709551616 - y - c) % 18446744073709551616 : Nat) : Int), .int .u64 ((if x < y + c then 1 else 0 : Nat) : Int)])) w := by
  rw [run_callFunc_extern Tryz.func166 (by kernel_rfl) (by kernel_rfl) (by kernel_rfl) (e := sub64Entry) (by kernel_rfl), run_sub64 x y c hc]; rfl
theorem bcell {W w1 : World} (hb : Below W.heap.size W w1) : (∀ b o, b < W.heap.size → w1.cell? ⟨b, o, none⟩ = W.cell? ⟨b, o, none⟩) ∧ (∀ b o, b < W.heap.size → w1.frozen? ⟨b, o, none⟩ = W.frozen? ⟨b, o, none⟩) :=
  ⟨fun b o h => hb.cell (p := ⟨b, o, none⟩) h, fun b o h => hb.frozen (p := ⟨b, o, none⟩) h⟩
theorem sign_any {w : World} {b : Bool} {n : Nat} :
    Calls Tryz.prog 90 #[wd b n] w fun e w' => e = .returned (.int .i64 (cmp (sgn b n) 0)) ∧ Below w.heap.size w w' := by
  by_cases h0 : n = 0
  · have HV := Lib.hid (show cmp (sgn b n) 0 = 0 by subst h0; unfold cmp sgn; cases b <;> simp); have HZ := Lib.hid (show decide (n = 0) = true by simp [h0]); clear h0; have HW := Lib.hid (wd_parts b n); rw [HW.out]; go_enter Tryz.func90, Tryz.ntmps90
    go_wp2_with fail
    rw [← HW.out]; refine isZero_any.mono ?_; rintro e w1 ⟨rfl, hb⟩; rw [HZ.out]; have hb' := (bel0 w _).trans (hb.mono (by simp)); clear hb; go_wp2; go_ret; exact ⟨by rw [HV.out]; rfl, hb'⟩
  · have HZ := Lib.hid (show decide (n = 0) = false by simp [h0])
    cases b
    · have HV := Lib.hid (show cmp (sgn false n) 0 = 1 by unfold cmp sgn; simp [h0]); clear h0; have HW := Lib.hid (wd_parts false n); rw [HW.out]; go_enter Tryz.func90, Tryz.ntmps90
      go_wp2_with fail
      rw [← HW.out]; refine isZero_any.mono ?_; rintro e w1 ⟨rfl, hb⟩; rw [HZ.out]; have hb' := (bel0 w _).trans (hb.mono (by simp)); have k1 := (Bk.new w 119 #[.bool false, .int .u64 (hi n : Nat), .int .u64 (lo n : Nat)]).below hb (by simp); have c0 := k1.cell 0; clear hb k1; go_wp2; go_ret; exact ⟨by rw [HV.out]; rfl, hb'⟩
    · have HV := Lib.hid (show cmp (sgn true n) 0 = -1 by unfold cmp sgn; simp; omega); clear h0; have HW := Lib.hid (wd_parts true n); rw [HW.out]; go_enter Tryz.func90, Tryz.ntmps90
      go_wp2_with fail
      rw [← HW.out]; refine isZero_any.mono ?_; rintro e w1 ⟨rfl, hb⟩; rw [HZ.out]; have hb' := (bel0 w _).trans (hb.mono (by simp)); have k1 := (Bk.new w 119 #[.bool true, .int .u64 (hi n : Nat), .int .u64 (lo n : Nat)]).below hb (by simp); have c0 := k1.cell 0; clear hb k1; go_wp2; go_ret; exact ⟨by rw [HV.out]; rfl, hb'⟩
theorem hl_mul {n k : Nat} (h : n * k < 340282366920938463463374607431768211456) :
    hi (n * k) = hi n * k + lo n * k / 18446744073709551616 ∧ lo (n * k) = lo n * k % 18446744073709551616 ∧ hi n * k + lo n * k / 18446744073709551616 < 18446744073709551616 := by
  have e : n * k = hi n * k * 18446744073709551616 + lo n * k := by
    conv => lhs; rw [← hi_lo n]
    rw [Nat.add_mul, Nat.mul_right_comm]
  have h1 : hi (n * k) = hi n * k + lo n * k / 18446744073709551616 := by
    show n * k / 18446744073709551616 = _
    omega
  refine ⟨h1, ?_, by rw [← h1]; exact hi_lt h⟩
  show n * k % 18446744073709551616 = _
  omega
theorem times_any {w : World} {b : Bool} {n k : Nat} (hk : k < 18446744073709551616) (h : n * k < 340282366920938463463374607431768211456) :
    Calls Tryz.prog 95 #[wd b n, .int .u64 k] w fun e w' => e = .returned (wd b (n * k)) ∧ Below w.heap.size w w' := by
  obtain ⟨h1, h2, h3⟩ := hl_mul h; have HM := Lib.hid (fun w => Tryz.bits_Mul64 (lo n) k (lo_lt n) hk w); generalize lo n * k / 18446744073709551616 = u at *; generalize lo n * k % 18446744073709551616 = v at *
  have HV := Lib.hid (show wd b (n * k) = .agg #[.bool b, .int .u64 (((hi n : Nat) : Int) * (k : Int) + (u : Int)), .int .u64 (v : Int)] by
    unfold wd; rw [h1, h2, Int.natCast_add, Int.natCast_mul])
  have h3' : ((hi n : Nat) : Int) * (k : Int) + (u : Int) < 18446744073709551616 := by rw [← Int.natCast_mul, ← Int.natCast_add]; omega
  have h4' : 0 ≤ ((hi n : Nat) : Int) * (k : Int) := Int.mul_nonneg (by omega) (by omega); clear h1 h2 h3 h hk; rw [wd_parts b n]; go_enter Tryz.func95, Tryz.ntmps95
  go_wp2_with fail
  refine (HM.out _).mono ?_; rintro e w1 ⟨rfl, rfl⟩; go_wp2; refine bodyPost_ret (v := .agg #[.bool b, .int .u64 (((hi n : Nat) : Int) * (k : Int) + (u : Int)), .int .u64 (v : Int)]) (by simp [results, Tryz.results95, go_sem]) rfl ⟨by rw [HV.out], bel1 _ _ _⟩
theorem hl_add (m n : Nat) (h : m + n < 340282366920938463463374607431768211456) :
    lo (m + n) = (lo m + lo n + 0) % 18446744073709551616 ∧ hi (m + n) = (hi m + hi n + (lo m + lo n + 0) / 18446744073709551616) % 18446744073709551616 ∧ (lo m + lo n + 0) / 18446744073709551616 ≤ 1 := by
  unfold hi lo; omega
theorem hl_sub (m n : Nat) (h : n ≤ m) (hm : m < 340282366920938463463374607431768211456) :
    lo (m - n) = (lo m + 18446744073709551616 - lo n - 0) % 18446744073709551616 ∧ hi (m - n) = (hi m + 18446744073709551616 - hi n - (if lo m < lo n + 0 then 1 else 0)) % 18446744073709551616 ∧ (if lo m < lo n + 0 then 1 else 0) ≤ 1 := by
  unfold hi lo
  split <;> omega
set_option maxRecDepth 100000 in
theorem add_any {w : World} {a b : Bool} {m n : Nat} (h : m + n < 340282366920938463463374607431768211456) :
    Calls Tryz.prog 91 #[wd a m, wd b n] w fun e w' => e = .returned (wd (adb a b m n) (adn a b m n)) ∧ Below w.heap.size w w' := by
  by_cases hab : a = b
  · subst hab; obtain ⟨h1, h2, h3⟩ := hl_add m n h; have HA : Hid (∀ w, (callFunc 164 #[.int .u64 (lo m : Nat), .int .u64 (lo n : Nat), .int .u64 0]).run Tryz.prog w = .ok (.value (.tuple #[.int .u64 (((lo m + lo n + 0) % 18446744073709551616 : Nat) : Int), .int .u64 (((lo m + lo n + 0) / 18446744073709551616 : Nat) : Int)])) w) := Lib.hid (fun w => add64_run (lo m) (lo n) 0 (by omega) w); generalize (lo m + lo n + 0) / 18446744073709551616 = q at *; generalize (lo m + lo n + 0) % 18446744073709551616 = r at *; have HB := Lib.hid (fun w => add64_run (hi m) (hi n) q h3 w); generalize (hi m + hi n + q) / 18446744073709551616 = q' at *; generalize (hi m + hi n + q) % 18446744073709551616 = r' at *
    have HV := Lib.hid (show wd (adb a a m n) (adn a a m n) = .agg #[.bool a, .int .u64 (r' : Int), .int .u64 (r : Int)] by
      unfold wd adb adn; rw [if_pos rfl, if_pos rfl, h1, h2])
    clear h1 h2 h3 h; rw [wd_parts a m, wd_parts a n]; go_enter Tryz.func91, Tryz.ntmps91
    go_wp2_with (first | (rw [HA.out]) | (rw [HB.out]))
    refine bodyPost_ret (v := .agg #[.bool a, .int .u64 (r' : Int), .int .u64 (r : Int)]) (by simp [results, Tryz.results91, go_sem]) rfl ⟨by rw [HV.out], bel2 _ _ _ _⟩
  · have hne : (a == b) = false := by simpa using hab
    by_cases hlt : m < n
    · obtain ⟨h1, h2, h3⟩ := hl_sub n m (by omega) (by omega); have HA : Hid (∀ w, (callFunc 166 #[.int .u64 (lo n : Nat), .int .u64 (lo m : Nat), .int .u64 0]).run Tryz.prog w = .ok (.value (.tuple #[.int .u64 (((lo n + 18446744073709551616 - lo m - 0) % 18446744073709551616 : Nat) : Int), .int .u64 ((if lo n < lo m + 0 then 1 else 0 : Nat) : Int)])) w) := Lib.hid (fun w => sub64_run (lo n) (lo m) 0 (by omega) w); generalize (lo n + 18446744073709551616 - lo m - 0) % 18446744073709551616 = r at *; generalize (if lo n < lo m + 0 then 1 else 0) = q at *; have HB := Lib.hid (fun w => sub64_run (hi n) (hi m) q h3 w); generalize (hi n + 18446744073709551616 - hi m - q) % 18446744073709551616 = r' at *; generalize (if hi n < hi m + q then 1 else 0) = q' at *
      have HV := Lib.hid (show wd (adb a b m n) (adn a b m n) = .agg #[.bool b, .int .u64 (r' : Int), .int .u64 (r : Int)] by
        rw [wd_parts]; unfold adb adn; rw [if_neg hab, if_neg hab, if_pos hlt, if_pos hlt, h1, h2])
      have HS := Lib.hid (show decide (m < n) = true by simp [hlt]); clear h1 h2 h3 h hlt hab; rw [wd_parts a m, wd_parts b n]; go_enter Tryz.func91, Tryz.ntmps91
      go_wp2_with fail
      refine (smaller_any (a := a) (b := b) (m := m) (n := n)).mono ?_; rintro e w1 ⟨rfl, hb⟩; rw [HS.out]; obtain ⟨k1, k2, k3, hb', -⟩ := bx3 hb; clear hb; have c10 := k1.cell 0; have c11 := k1.cell 1; have c12 := k1.cell 2; have c20 := k2.cell 0; have c21 := k2.cell 1; have c22 := k2.cell 2; have z10 := k1.frozen 0; have z11 := k1.frozen 1; have z12 := k1.frozen 2; have z20 := k2.frozen 0; have z21 := k2.frozen 1; have z22 := k2.frozen 2; have z30 := k3.frozen 0; have z31 := k3.frozen 1; have z32 := k3.frozen 2; have c30 := k3.cell 0; have c31 := k3.cell 1; have c32 := k3.cell 2; clear k1 k2 k3
      go_wp2_with (first | (rw [HA.out]) | (rw [HB.out]))
      refine bodyPost_ret (v := .agg #[.bool b, .int .u64 (r' : Int), .int .u64 (r : Int)]) (by simp [results, Tryz.results91, go_sem, c30, c31, c32]) rfl ⟨by rw [HV.out], (((((((((hb'.setCell (by simp <;> omega) _).setCell (by simp <;> omega) _).setCell (by simp <;> omega) _).setCell (by simp <;> omega) _).setCell (by simp <;> omega) _).setCell (by simp <;> omega) _).setCell (by simp <;> omega) _).setCell (by simp <;> omega) _).setCell (by simp <;> omega) _)⟩
    · obtain ⟨h1, h2, h3⟩ := hl_sub m n (by omega) (by omega); have HA : Hid (∀ w, (callFunc 166 #[.int .u64 (lo m : Nat), .int .u64 (lo n : Nat), .int .u64 0]).run Tryz.prog w = .ok (.value (.tuple #[.int .u64 (((lo m + 18446744073709551616 - lo n - 0) % 18446744073709551616 : Nat) : Int), .int .u64 ((if lo m < lo n + 0 then 1 else 0 : Nat) : Int)])) w) := Lib.hid (fun w => sub64_run (lo m) (lo n) 0 (by omega) w); generalize (lo m + 18446744073709551616 - lo n - 0) % 18446744073709551616 = r at *; generalize (if lo m < lo n + 0 then 1 else 0) = q at *; have HB := Lib.hid (fun w => sub64_run (hi m) (hi n) q h3 w); generalize (hi m + 18446744073709551616 - hi n - q) % 18446744073709551616 = r' at *; generalize (if hi m < hi n + q then 1 else 0) = q' at *
      have HV := Lib.hid (show wd (adb a b m n) (adn a b m n) = .agg #[.bool a, .int .u64 (r' : Int), .int .u64 (r : Int)] by
        rw [wd_parts]; unfold adb adn; rw [if_neg hab, if_neg hab, if_neg hlt, if_neg hlt, h1, h2])
      have HS := Lib.hid (show decide (m < n) = false by simp; omega); clear h1 h2 h3 h hlt hab; rw [wd_parts a m, wd_parts b n]; go_enter Tryz.func91, Tryz.ntmps91
      go_wp2_with fail
      refine (smaller_any (a := a) (b := b) (m := m) (n := n)).mono ?_; rintro e w1 ⟨rfl, hb⟩; rw [HS.out]; obtain ⟨k1, k2, k3, hb', -⟩ := bx3 hb; clear hb; have c10 := k1.cell 0; have c11 := k1.cell 1; have c12 := k1.cell 2; have c20 := k2.cell 0; have c21 := k2.cell 1; have c22 := k2.cell 2; have z30 := k3.frozen 0; have z31 := k3.frozen 1; have z32 := k3.frozen 2; have c30 := k3.cell 0; have c31 := k3.cell 1; have c32 := k3.cell 2; clear k1 k2 k3
      go_wp2_with (first | (rw [HA.out]) | (rw [HB.out]))
      refine bodyPost_ret (v := .agg #[.bool a, .int .u64 (r' : Int), .int .u64 (r : Int)]) (by simp [results, Tryz.results91, go_sem, c30, c31, c32]) rfl ⟨by rw [HV.out], (((hb'.setCell (by simp <;> omega) _).setCell (by simp <;> omega) _).setCell (by simp <;> omega) _)⟩
theorem grow_any {w : World} {b : Bool} {n : Nat} (h : n + 1 < 340282366920938463463374607431768211456) :
    Calls Tryz.prog 97 #[wd b n] w fun e w' => e = .returned (wd b (n + 1)) ∧ Below w.heap.size w w' := by
  have HV := Lib.hid (show wd (adb b b n 1) (adn b b n 1) = wd b (n + 1) by unfold adb adn; rw [if_pos rfl, if_pos rfl])
  have HA : Hid (∀ w, Calls Tryz.prog 91 #[.agg #[.bool b, .int .u64 (hi n : Nat), .int .u64 (lo n : Nat)], .agg #[.bool b, .int .u64 0, .int .u64 1]] w fun e w' => e = .returned (.agg #[.bool b, .int .u64 (hi (n + 1) : Nat), .int .u64 (lo (n + 1) : Nat)]) ∧ Below w.heap.size w w') := Lib.hid (fun w => by
    have := add_any (w := w) (a := b) (b := b) (m := n) (n := 1) h; rw [HV.out] at this
    exact this)
  rw [wd_parts b n, wd_parts b (n + 1)]; generalize hi (n + 1) = p at *; generalize lo (n + 1) = q at *; clear HV h; go_enter Tryz.func97, Tryz.ntmps97
  go_wp2_with fail
  refine (HA.out _).mono ?_; rintro e w1 ⟨rfl, hb⟩; obtain ⟨k1, k2, hb', -⟩ := bx2 hb; clear hb; have c20 := k2.cell 0; have c21 := k2.cell 1; have c22 := k2.cell 2; have z20 := k2.frozen 0; have z21 := k2.frozen 1; have z22 := k2.frozen 2; clear k1 k2; go_wp2; refine bodyPost_ret (v := .agg #[.bool b, .int .u64 (p : Int), .int .u64 (q : Int)]) (by simp [results, Tryz.results97, go_sem, c20, c21, c22]) rfl ⟨rfl, (((hb'.setCell (by simp <;> omega) _).setCell (by simp <;> omega) _).setCell (by simp <;> omega) _)⟩
end Go.Proofs.YtngkolcpbgibcaaGreatDoor
namespace Go.Proofs.YtngkolcpbgibcaaGreatDoor
structure Kn (y1 y0 u d : Nat) : Prop where
  y1lo : 2147483648 ≤ y1
  y1hi : y1 < 4294967296
  y0hi : y0 < 4294967296
  uy : u < y1 * 4294967296 + y0
  dhi : d < 4294967296
variable {y1 y0 u d q r : Nat}
def knq (y1 y0 u d : Nat) : Nat := (u * 4294967296 + d) / (y1 * 4294967296 + y0)
theorem Kn.lt (h : Kn y1 y0 u d) : knq y1 y0 u d < 4294967296 := by
  have h1 := h.uy; have h2 := h.dhi; unfold knq; refine (Nat.div_lt_iff_lt_mul (by omega)).2 ?_; omega
theorem kn_mul (q : Nat) : q * (y1 * 4294967296 + y0) = q * y1 * 4294967296 + q * y0 := by rw [Nat.mul_add, Nat.mul_assoc]
theorem Kn.start (h : Kn y1 y0 u d) : u / y1 ≤ 4294967297 ∧ knq y1 y0 u d ≤ u / y1 := by
  have h1 := h.uy; have h2 := h.dhi; have h3 := h.y1lo; have h4 := h.y0hi; have h5 := h.y1hi
  constructor
  · refine Nat.lt_succ_iff.1 ((Nat.div_lt_iff_lt_mul (by omega)).2 ?_); omega
  · refine (Nat.le_div_iff_mul_le (by omega)).2 ?_; have h6 : knq y1 y0 u d * (y1 * 4294967296 + y0) ≤ u * 4294967296 + d := Nat.div_mul_le_self _ _; rw [kn_mul] at h6; generalize knq y1 y0 u d * y1 = P at *; omega
theorem Kn.dec (h : Kn y1 y0 u d) (e : q * y1 + r = u) (hq : knq y1 y0 u d ≤ q) (hc : 4294967296 ≤ q ∨ 4294967296 * r + d < q * y0) : 1 ≤ q ∧ knq y1 y0 u d ≤ q - 1 ∧ (q - 1) * y1 + (r + y1) = u := by
  have h0 := h.lt
  have h1 : knq y1 y0 u d < q := by
    rcases hc with hc | hc
    · omega
    · have h3 := h.y1lo; unfold knq; refine (Nat.div_lt_iff_lt_mul (by omega)).2 ?_; rw [kn_mul, ← e]; generalize q * y1 = P at *; omega
  refine ⟨by omega, by omega, ?_⟩; obtain ⟨p, rfl⟩ : ∃ p, q = p + 1 := ⟨q - 1, by omega⟩
  rw [Nat.add_sub_cancel, ← e, Nat.add_mul]; omega
theorem Kn.done (h : Kn y1 y0 u d) (e : q * y1 + r = u) (hq : knq y1 y0 u d ≤ q) (hc : q * y0 ≤ 4294967296 * r + d) : q = knq y1 y0 u d := by
  refine Nat.le_antisymm ?_ hq; have h3 := h.y1lo; unfold knq; refine (Nat.le_div_iff_mul_le (by omega)).2 ?_; rw [kn_mul, ← e]; generalize q * y1 = P at *; omega
theorem Kn.broke (h : Kn y1 y0 u d) (e : q * y1 + r = u) (hq : knq y1 y0 u d ≤ q) (h1 : q ≤ 4294967296) (h2 : 4294967296 ≤ r) : q = knq y1 y0 u d := by
  refine h.done e hq ?_; have h3 := h.y0hi; have h4 : q * y0 ≤ 4294967296 * y0 := Nat.mul_le_mul_right _ h1; omega
def knr (y1 y0 u d : Nat) : Nat := (u * 4294967296 + d) % (y1 * 4294967296 + y0)
theorem Kn.rest (h : Kn y1 y0 u d) : u * 4294967296 + d = knq y1 y0 u d * (y1 * 4294967296 + y0) + knr y1 y0 u d ∧ knr y1 y0 u d < y1 * 4294967296 + y0 := by
  have h3 := h.y1lo; unfold knq knr; have h1 := Nat.div_add_mod (u * 4294967296 + d) (y1 * 4294967296 + y0); rw [Nat.mul_comm] at h1; exact ⟨h1.symm, Nat.mod_lt _ (by omega)⟩
theorem two_digits {u d1 d0 y q1 r1 q0 r0 : Nat} (h1 : u * 4294967296 + d1 = q1 * y + r1) (h2 : r1 * 4294967296 + d0 = q0 * y + r0) (h3 : r0 < y) :
    (u * 4294967296 + d1) * 4294967296 + d0 = (q1 * 4294967296 + q0) * y + r0 ∧ ((u * 4294967296 + d1) * 4294967296 + d0) / y = q1 * 4294967296 + q0 ∧ ((u * 4294967296 + d1) * 4294967296 + d0) % y = r0 := by
  have e : (u * 4294967296 + d1) * 4294967296 + d0 = (q1 * 4294967296 + q0) * y + r0 := by
    rw [h1, Nat.add_mul, Nat.add_mul, Nat.mul_right_comm]; omega
  refine ⟨e, ?_, ?_⟩
  · rw [e, Nat.mul_comm _ y, Nat.mul_add_div (by omega), Nat.div_eq_of_lt h3, Nat.add_zero]
  · rw [e, Nat.mul_comm _ y, Nat.mul_add_mod, Nat.mod_eq_of_lt h3]
theorem shift_div (n y s : Nat) : (n * 2 ^ s) / (y * 2 ^ s) = n / y ∧ (n * 2 ^ s) % (y * 2 ^ s) / 2 ^ s = n % y := by
  have h : 0 < 2 ^ s := Nat.pow_pos (by omega); exact ⟨Nat.mul_div_mul_right _ _ h, by rw [Nat.mul_mod_mul_right, Nat.mul_div_cancel _ h]⟩
end Go.Proofs.YtngkolcpbgibcaaGreatDoor
namespace Go.Proofs.YtngkolcpbgibcaaGreatDoor
open Go
theorem bitLenAux_spec : ∀ (f x : Nat), x < 2 ^ f → 0 < x → ∃ k, Lib.bitLenAux f x = k + 1 ∧ 2 ^ k ≤ x ∧ x < 2 ^ (k + 1) ∧ k + 1 ≤ f
  | 0, x, h, h0 => by simp at h; omega
  | f + 1, x, h, h0 => by
    rw [Lib.bitLenAux, if_neg (by omega)]; rw [Nat.pow_succ] at h
    by_cases h1 : x / 2 = 0
    · refine ⟨0, ?_, by simp; omega, by simp; omega, by omega⟩; rw [h1]
      cases f <;> simp [Lib.bitLenAux]
    · obtain ⟨k, e, h2, h3, h4⟩ := bitLenAux_spec f (x / 2) (by omega) (by omega); refine ⟨k + 1, by rw [e]; omega, by rw [Nat.pow_succ]; omega, by rw [Nat.pow_succ]; omega, by omega⟩
theorem or_shift (a b i : Nat) (ha : a < 2 ^ i) : b * 2 ^ i ||| a = b * 2 ^ i + a := by
  have h := Nat.shiftLeft_add_eq_or_of_lt (i := i) (b := a) ha b; rw [Nat.shiftLeft_eq] at h; exact h.symm
theorem or_u64 (a b : Nat) (ha : a < 18446744073709551616) (hb : b < 18446744073709551616) (h : a ||| b < 18446744073709551616) : bits .or .u64 (a : Int) (b : Int) = ((a ||| b : Nat) : Int) := by
  show IntKind.u64.wrap ((BitVec.ofInt 64 (a : Int) ||| BitVec.ofInt 64 (b : Int)).toNat : Int) = _
  rw [BitVec.toNat_or, BitVec.ofInt_natCast, BitVec.ofInt_natCast, BitVec.toNat_ofNat, BitVec.toNat_ofNat, Nat.mod_eq_of_lt (by omega), Nat.mod_eq_of_lt (by omega)]; exact IntWalk.u64_in _ (by omega)
theorem and_low (a : Nat) (ha : a < 18446744073709551616) : bits .and .u64 (a : Int) 4294967295 = ((a % 4294967296 : Nat) : Int) := by
  have h := u64_and_nat a 4294967295 ha (by decide); rw [show (((4294967295 : Nat)) : Int) = 4294967295 from rfl] at h; rw [h, show (4294967295 : Nat) = 2 ^ 32 - 1 from rfl, Nat.and_two_pow_sub_one_eq_mod]
theorem pow_int (s : Nat) : ((2 ^ s : Nat) : Int) = 2 ^ s := by simp
theorem dv_setup {h l y : Nat} (hl : l < 18446744073709551616) (hy : y < 18446744073709551616) (hhy : h < y) :
    ∃ s Y y1 y0 a c u e d1 d0 : Nat, s ≤ 63 ∧ 64 - (Lib.bitLen y : Int) = s ∧ IntKind.u64.wrap ((y : Int) * 2 ^ s) = (Y : Int) ∧ (Y : Int) / 4294967296 = (y1 : Int) ∧ bits .and .u64 (Y : Int) 4294967295 = (y0 : Int) ∧
      IntKind.u64.wrap ((h : Int) * 2 ^ s) = (a : Int) ∧ (l : Int) / 2 ^ (64 - s) = (c : Int) ∧ bits .or .u64 (a : Int) (c : Int) = (u : Int) ∧ IntKind.u64.wrap ((l : Int) * 2 ^ s) = (e : Int) ∧ (e : Int) / 4294967296 = (d1 : Int) ∧ bits .and .u64 (e : Int) 4294967295 = (d0 : Int) ∧
      Kn y1 y0 u d1 ∧ d0 < 4294967296 ∧ Y = y1 * 4294967296 + y0 ∧ Y = y * 2 ^ s ∧ (u * 4294967296 + d1) * 4294967296 + d0 = (h * 18446744073709551616 + l) * 2 ^ s := by
  obtain ⟨k, hk, h1, h2, h3⟩ := bitLenAux_spec 64 y hy (by omega); have hP : 0 < 2 ^ (63 - k) := Nat.pow_pos (by omega); have hQ : 0 < 2 ^ (k + 1) := Nat.pow_pos (by omega); have hPQ : 2 ^ (63 - k) * 2 ^ (k + 1) = 18446744073709551616 := by rw [← Nat.pow_add, show 63 - k + (k + 1) = 64 by omega]
  have hPk : 2 ^ (63 - k) * 2 ^ k = 9223372036854775808 := by rw [← Nat.pow_add, show 63 - k + k = 63 by omega]
  have hs64 : 64 - (63 - k) = k + 1 := by omega
  have hY1 : y * 2 ^ (63 - k) < 18446744073709551616 := by rw [← hPQ, Nat.mul_comm]; exact Nat.mul_lt_mul_of_pos_left h2 hP
  have hY2 : 9223372036854775808 ≤ y * 2 ^ (63 - k) := by rw [← hPk, Nat.mul_comm]; exact Nat.mul_le_mul_right _ h1
  have hc : l / 2 ^ (k + 1) < 2 ^ (63 - k) := (Nat.div_lt_iff_lt_mul hQ).2 (by rw [hPQ]; exact hl); have hh1 : (h + 1) * 2 ^ (63 - k) ≤ y * 2 ^ (63 - k) := Nat.mul_le_mul_right _ hhy; rw [Nat.add_mul, Nat.one_mul] at hh1; have hdm := Nat.div_add_mod l (2 ^ (k + 1)); have hml := Nat.mod_lt l hQ
  have hmP : l % 2 ^ (k + 1) * 2 ^ (63 - k) < 18446744073709551616 := by
    rw [← hPQ, Nat.mul_comm (2 ^ (63 - k))]; exact Nat.mul_lt_mul_of_pos_right hml hP
  have hlP : l * 2 ^ (63 - k) = l / 2 ^ (k + 1) * 18446744073709551616 + l % 2 ^ (k + 1) * 2 ^ (63 - k) := by
    conv => lhs; rw [← hdm]
    rw [Nat.add_mul, ← hPQ, Nat.mul_comm (2 ^ (k + 1)), Nat.mul_assoc, Nat.mul_comm (2 ^ (k + 1))]
  have heq : (l : Int) * 2 ^ (63 - k) = ((l * 2 ^ (63 - k) : Nat) : Int) := by rw [Int.natCast_mul, pow_int]
  refine ⟨63 - k, y * 2 ^ (63 - k), y * 2 ^ (63 - k) / 4294967296, y * 2 ^ (63 - k) % 4294967296, h * 2 ^ (63 - k), l / 2 ^ (k + 1), h * 2 ^ (63 - k) + l / 2 ^ (k + 1), l % 2 ^ (k + 1) * 2 ^ (63 - k),
    l % 2 ^ (k + 1) * 2 ^ (63 - k) / 4294967296, l % 2 ^ (k + 1) * 2 ^ (63 - k) % 4294967296, by omega, by unfold Lib.bitLen; rw [hk]; omega, ?_, rfl, ?_, ?_, ?_, ?_, ?_, rfl, ?_, ⟨by omega, by omega, by omega, by omega, by omega⟩, by omega, by omega, rfl, ?_⟩
  · rw [← pow_int, ← Int.natCast_mul]; exact IntWalk.u64_in _ (by omega)
  · exact and_low _ hY1
  · rw [← pow_int, ← Int.natCast_mul]; exact IntWalk.u64_in _ (by omega)
  · rw [hs64, ← pow_int]; rfl
  · rw [or_u64 _ _ (by omega) (by omega) (by rw [or_shift _ _ _ hc]; omega), or_shift _ _ _ hc]
  · rw [heq, hlP, IntKind.wrap_u64]; omega
  · exact and_low _ hmP
  · have e1 : (h * 18446744073709551616 + l) * 2 ^ (63 - k) = h * 2 ^ (63 - k) * 18446744073709551616 + l * 2 ^ (63 - k) := by rw [Nat.add_mul, Nat.mul_right_comm]
    rw [e1, hlP]; omega
end Go.Proofs.YtngkolcpbgibcaaGreatDoor
namespace Go.Proofs.YtngkolcpbgibcaaGreatDoor
open Go.RowKit
theorem dv_rest {u d Y q r : Nat} (h : u * 4294967296 + d = q * Y + r) (hr : r < 18446744073709551616) :
    ∃ f g m : Nat, IntKind.u64.wrap ((u : Int) * 4294967296) = (f : Int) ∧ IntKind.u64.wrap ((f : Int) + (d : Int)) = (g : Int) ∧ IntKind.u64.wrap ((q : Int) * (Y : Int)) = (m : Int) ∧ IntKind.u64.wrap ((g : Int) - (m : Int)) = (r : Int) := by
  refine ⟨u * 4294967296 % 18446744073709551616, (u * 4294967296 % 18446744073709551616 + d) % 18446744073709551616, q * Y % 18446744073709551616, ?_, ?_, ?_, ?_⟩
  · rw [IntKind.wrap_u64]; omega
  · rw [IntKind.wrap_u64]; omega
  · rw [IntKind.wrap_u64, ← Int.natCast_mul]; omega
  · rw [IntKind.wrap_u64]; omega
set_option maxRecDepth 1000000 in
theorem div64_low {w : World} {l y : Nat} (hl : l < 18446744073709551616) (hy : y < 18446744073709551616) (h0 : 0 < y) :
    Calls Tryz.prog 167 #[.int .u64 0, .int .u64 l, .int .u64 y] w fun e w' => e = .returned (.tuple #[.int .u64 (l / y : Nat), .int .u64 (l % y : Nat)]) ∧ w' = w.drewN 1 := by
  have h1 : ((y : Int) == 0) = false := by simp; omega
  have h2 : ¬ (y : Int) ≤ 0 := by omega
  have h3 : 1 ≤ (y : Int) := by omega
  have HV := Lib.hid (show Ending.returned (.tuple #[.int .u64 (IntKind.u64.wrap ((l : Int) / (y : Int))), .int .u64 ((l : Int) % (y : Int))]) = .returned (.tuple #[.int .u64 (l / y : Nat), .int .u64 (l % y : Nat)]) by
    have e : IntKind.u64.wrap ((l / y : Nat) : Int) = ((l / y : Nat) : Int) := by
      have := Nat.div_le_self l y; generalize l / y = k at *; exact IntWalk.u64_in _ (by omega)
    rw [← Int.natCast_ediv, ← Int.natCast_emod, e])
  go_enter Tryz.func167, Tryz.ntmps167; go_wp2
  go_region
  all_goals
    go_wp2
    go_ret2
    exact ⟨HV.out, rfl⟩
set_option maxRecDepth 1000000 in
set_option maxHeartbeats 2000000 in
theorem div64_high {w : World} {h l y : Nat} (hl : l < 18446744073709551616) (hy : y < 18446744073709551616) (h0 : 0 < h) (hhy : h < y) :
    Calls Tryz.prog 167 #[.int .u64 h, .int .u64 l, .int .u64 y] w fun e w' => e = .returned (.tuple #[.int .u64 ((h * 18446744073709551616 + l) / y : Nat), .int .u64 ((h * 18446744073709551616 + l) % y : Nat)]) ∧ w = w' := by
  have h1 : ((y : Int) == 0) = false := by simp; omega
  have h1' : ((h : Int) == 0) = false := by simp; omega
  have h2 : ¬ (y : Int) ≤ (h : Int) := by omega
  obtain ⟨s, Y, y1, y0, a, c, u, e, d1, d0, hs, hlz, E1, E2, E3, E4, E5, E6, E7, E8, E9, hK, hd0, hY, hYs, hN⟩ := dv_setup hl hy hhy; have hs' : (s : Int) ≤ 63 := by omega
  have HZ : Hid (∀ w, Calls Tryz.prog 191 #[.int .u64 (y : Int)] w fun e w' => e = .returned (.int .i64 (s : Int)) ∧ w' = w) := Lib.hid (fun w => by
    have := Tryz.bits_LeadingZeros64 (y : Int) w (by omega) (by omega); rw [Int.toNat_natCast, hlz] at this
    exact this)
  clear hlz; obtain ⟨hq1, hq2⟩ := hK.start; obtain ⟨hr1, hr2⟩ := hK.rest; have hK2 : Kn y1 y0 (knr y1 y0 u d1) d0 := ⟨hK.y1lo, hK.y1hi, hK.y0hi, hr2, hd0⟩
  obtain ⟨hq3, hq4⟩ := hK2.start; obtain ⟨hr3, hr4⟩ := hK2.rest; have hlt1 := hK.lt; have hlt2 := hK2.lt; obtain ⟨hm1, hm2, hm3⟩ := two_digits hr1 hr3 hr4; rw [hN, ← hY, hYs] at hm2 hm3; obtain ⟨hd1, hd2⟩ := shift_div (h * 18446744073709551616 + l) y s; rw [hm2] at hd1; rw [hm3] at hd2; have HQ := Lib.hid hd1; have HR := Lib.hid hd2; have by1 := hK.y1lo; have by1' := hK.y1hi; have by0 := hK.y0hi; have buY := hK.uy; have bd1 := hK.dhi; have hdm := Nat.div_add_mod u y1; rw [Nat.mul_comm] at hdm; have hml := Nat.mod_lt u (show 0 < y1 by omega); obtain ⟨f, g, m, F1, F2, F3, F4⟩ := dv_rest (Y := Y) (by rw [hY]; exact hr1) (by omega); obtain ⟨f', g', m', G1, G2, G3, G4⟩ := dv_rest (Y := Y) (by rw [hY]; exact hr3) (by omega); have hdm2 := Nat.div_add_mod (knr y1 y0 u d1) y1; rw [Nat.mul_comm] at hdm2; have hml2 := Nat.mod_lt (knr y1 y0 u d1) (show 0 < y1 by omega); have hrlt : knr y1 y0 u d1 < 18446744073709551616 := by omega
  have G5 : ((knr y1 y0 (knr y1 y0 u d1) d0 : Nat) : Int) / 2 ^ s = ((h * 18446744073709551616 + l) % y : Nat) := by
    rw [← HR.out, Int.natCast_ediv, pow_int]
  have HK := Lib.hid hK; have HK2 := Lib.hid hK2; have HN : Hid ((h * 18446744073709551616 + l) / y = knq y1 y0 u d1 * 4294967296 + knq y1 y0 (knr y1 y0 u d1) d0) := Lib.hid hd1.symm; have D1 : (u : Int) / (y1 : Int) = ((u / y1 : Nat) : Int) := rfl; have D2 : ((knr y1 y0 u d1 : Nat) : Int) / (y1 : Int) = ((knr y1 y0 u d1 / y1 : Nat) : Int) := rfl; have hqa := (Nat.mul_comm _ _ : u / y1 * y1 = y1 * (u / y1))
  have M1 : (u : Int) - ((u / y1 : Nat) : Int) * (y1 : Int) = ((u % y1 : Nat) : Int) := by rw [← Int.natCast_mul]; omega
  have L1 : ((u / y1 : Nat) : Int) * (y1 : Int) ≤ (u : Int) := by rw [← Int.natCast_mul]; omega
  have P1 : 0 ≤ ((u / y1 : Nat) : Int) * (y1 : Int) := by rw [← Int.natCast_mul]; omega
  have M2 : ((knr y1 y0 u d1 : Nat) : Int) - ((knr y1 y0 u d1 / y1 : Nat) : Int) * (y1 : Int) = ((knr y1 y0 u d1 % y1 : Nat) : Int) := by rw [← Int.natCast_mul]; omega
  have L2 : ((knr y1 y0 u d1 / y1 : Nat) : Int) * (y1 : Int) ≤ ((knr y1 y0 u d1 : Nat) : Int) := by rw [← Int.natCast_mul]; omega
  have P2 : 0 ≤ ((knr y1 y0 u d1 / y1 : Nat) : Int) * (y1 : Int) := by rw [← Int.natCast_mul]; omega
  have hult : (u : Int) < 18446744073709551616 := by omega
  have hvlt : ((knr y1 y0 u d1 : Nat) : Int) < 18446744073709551616 := by omega
  have S1 : Hid (∃ q r : Nat, .int .u64 ((u / y1 : Nat) : Int) = Value.int .u64 q ∧ Value.int .u64 ((u % y1 : Nat) : Int) = .int .u64 r ∧ q * y1 + r = u ∧ knq y1 y0 u d1 ≤ q ∧ q ≤ 4294967297 ∧ r < 4294967296) := Lib.hid ⟨u / y1, u % y1, rfl, rfl, hdm, hq2, hq1, by omega⟩; have S2 : Hid (∃ q r : Nat, .int .u64 ((knr y1 y0 u d1 / y1 : Nat) : Int) = Value.int .u64 q ∧ Value.int .u64 ((knr y1 y0 u d1 % y1 : Nat) : Int) = .int .u64 r ∧ q * y1 + r = knr y1 y0 u d1 ∧ knq y1 y0 (knr y1 y0 u d1) d0 ≤ q ∧ q ≤ 4294967297 ∧ r < 4294967296) := Lib.hid ⟨knr y1 y0 u d1 / y1, knr y1 y0 u d1 % y1, rfl, rfl, hdm2, hq4, hq3, by omega⟩; have bqa : ((u / y1 : Nat) : Int) ≤ 4294967297 := by omega
  have bqb : ((knr y1 y0 u d1 / y1 : Nat) : Int) ≤ 4294967297 := by omega
  have bq1 : ((knq y1 y0 u d1 : Nat) : Int) < 4294967296 := by omega
  have bq2 : ((knq y1 y0 (knr y1 y0 u d1) d0 : Nat) : Int) < 4294967296 := by omega
  clear hK hK2 hd1 hd2 hm1 hm2 hm3 hr1 hr3 hN hY hYs HQ HR hr2 hr4 hlt1 hlt2 hq3 hq4 hdm hdm2 hml hml2 hq1 hq2 hqa buY hrlt; generalize u / y1 = qa at *; generalize u % y1 = ra at *; generalize knr y1 y0 u d1 / y1 = qb at *; generalize knr y1 y0 u d1 % y1 = rb at *; generalize hv : knr y1 y0 u d1 = v at *; generalize knr y1 y0 v d0 = z at *; generalize hka : knq y1 y0 u d1 = ka at *; generalize hkb : knq y1 y0 v d0 = kb at *; have HKA := Lib.hid hka; have HKB := Lib.hid hkb; clear hv hka hkb; have by1i : (2147483648 : Int) ≤ (y1 : Int) := by omega
  have by1j : (y1 : Int) < 4294967296 := by omega
  go_enter Tryz.func167, Tryz.ntmps167
  go_wp2_with fail
  refine (HZ.out _).mono ?_; rintro e w1 ⟨rfl, rfl⟩
  go_upto_block 0 with fail
  go_cut [15, 16] from 67 (fun q1 _ wx => q1 = .int .u64 (ka : Int) ∧ wx = w1)
  case first =>
    go_wp2_with fail
    go_loop [15, 16] (fun q1 r1 => ∃ q r : Nat, q1 = .int .u64 q ∧ r1 = .int .u64 r ∧ q * y1 + r = u ∧ ka ≤ q ∧ q ≤ 4294967297 ∧ r < 4294967296) (fun q1 _ => (intOf q1).toNat)
    case atStart => exact S1.out
    case round =>
      obtain ⟨q, r, rfl, rfl, hqr, hkq, hqb, hrb⟩ := hrel
      by_cases hq : 4294967296 ≤ q
      · obtain ⟨p1, p2, p3⟩ := HK.out.dec hqr (by rw [HKA.out]; exact hkq) (.inl hq); rw [HKA.out] at p2; obtain ⟨p, rfl⟩ : ∃ p, q = p + 1 := ⟨q - 1, by omega⟩
        rw [Nat.add_sub_cancel] at p2 p3; have hqi : (4294967296 : Int) ≤ (p : Int) + 1 := by omega
        by_cases hbr : 4294967296 ≤ r + y1
        · have hbri : (4294967296 : Int) ≤ (r : Int) + (y1 : Int) := by omega
          have hend : p = ka := by rw [← HKA.out]; exact HK.out.broke p3 (by rw [HKA.out]; exact p2) (by omega) hbr
          have HE := Lib.hid hend; clear p1 p2 p3 hqr hkq hbr hend
          go_wp2_with fail
          go_meet; exact ⟨by rw [← HE.out], rfl⟩
        · have hbri : decide ((4294967296 : Int) ≤ (r : Int) + (y1 : Int)) = false := decide_eq_false (by omega); have hbrj : (r : Int) + (y1 : Int) ≤ 8589934592 := by omega
          have HBR := Lib.hid (Nat.lt_of_not_le hbr); have HP2 := Lib.hid p2; have HP3 := Lib.hid p3; clear p1 p2 p3 hqr hkq hbr
          go_wp2_with fail
          go_round
          case rel => exact ⟨p, r + y1, by go_num, by go_num, HP3.out, HP2.out, by omega, HBR.out⟩
          case measure => simp [intOf]
      · have hq0i : (q : Int) < 4294967296 := by omega
        have hq0b : decide ((4294967296 : Int) ≤ (q : Int)) = false := decide_eq_false (by omega); have hmul : q * y0 ≤ 4294967295 * 4294967295 := Nat.mul_le_mul (by omega) (by omega); have hmuli : (q : Int) * (y0 : Int) < 18446744073709551616 := by rw [← Int.natCast_mul]; omega
        have hmuln : 0 ≤ (q : Int) * (y0 : Int) := by rw [← Int.natCast_mul]; omega
        by_cases hc : 4294967296 * r + d1 < q * y0
        · have hci : 4294967296 * (r : Int) + (d1 : Int) < (q : Int) * (y0 : Int) := by rw [← Int.natCast_mul]; omega
          obtain ⟨p1, p2, p3⟩ := HK.out.dec hqr (by rw [HKA.out]; exact hkq) (.inr hc); rw [HKA.out] at p2; obtain ⟨p, hp⟩ : ∃ p, q = p + 1 := ⟨q - 1, by omega⟩
          have hpi : (1 : Int) ≤ (q : Int) := by omega
          have HP := Lib.hid hp
          by_cases hbr : 4294967296 ≤ r + y1
          · have hbri : (4294967296 : Int) ≤ (r : Int) + (y1 : Int) := by omega
            have hend : q - 1 = ka := by rw [← HKA.out]; exact HK.out.broke p3 (by rw [HKA.out]; exact p2) (by omega) hbr
            have HE := Lib.hid hend; clear p1 p2 p3 hqr hkq hbr hend hp hc hmul hq
            go_wp2_with fail
            go_meet; exact ⟨by rw [← HE.out, Int.natCast_sub (by rw [HP.out]; omega)]; rfl, rfl⟩
          · have hbri : decide ((4294967296 : Int) ≤ (r : Int) + (y1 : Int)) = false := decide_eq_false (by omega); have hbrj : (r : Int) + (y1 : Int) ≤ 8589934592 := by omega
            have HBR := Lib.hid (Nat.lt_of_not_le hbr); have HP2 := Lib.hid p2; have HP3 := Lib.hid p3; clear p1 p2 p3 hqr hkq hbr hp hc hmul hq
            go_wp2_with fail
            go_round
            case rel => exact ⟨q - 1, r + y1, by rw [Int.natCast_sub (by rw [HP.out]; omega)]; rfl, by go_num, HP3.out, HP2.out, by omega, HBR.out⟩
            case measure => simp [intOf]; omega
        · obtain ⟨X, hX⟩ : ∃ X : Nat, (q : Int) * (y0 : Int) = (X : Int) := ⟨q * y0, (Int.natCast_mul ..).symm⟩
          obtain ⟨Z, hZ⟩ : ∃ Z : Nat, 4294967296 * (r : Int) + (d1 : Int) = (Z : Int) := ⟨4294967296 * r + d1, by omega⟩
          have hci : X ≤ Z := by
            have h1 : (q * y0 : Nat) = X := by have := hX; rw [← Int.natCast_mul] at this; omega
            omega
          have hXb : (X : Int) < 18446744073709551616 := by rw [← hX]; exact hmuli
          have hdb : decide (Z < X) = false := decide_eq_false (by omega); have hdbi : decide ((Z : Int) < (X : Int)) = false := decide_eq_false (by omega); have hend : q = ka := by rw [← HKA.out]; exact HK.out.done hqr (by rw [HKA.out]; exact hkq) (Nat.le_of_not_lt hc)
          have HE := Lib.hid hend; clear hqr hkq hc hmul hq hend hci hmuli hmuln hq0i
          go_wp2_with fail
          go_meet; exact ⟨by rw [HE.out], rfl⟩
  case rest =>
    obtain ⟨rfl, rfl⟩ := hcut
    go_upto_block 2 with fail
    go_cut [16, 18] from 102 (fun _ q1 wx => q1 = .int .u64 (kb : Int) ∧ wx = wc)
    case first =>
      go_wp2_with fail
      go_loop [16, 18] (fun r1 q1 => ∃ q r : Nat, q1 = .int .u64 q ∧ r1 = .int .u64 r ∧ q * y1 + r = v ∧ kb ≤ q ∧ q ≤ 4294967297 ∧ r < 4294967296) (fun _ q1 => (intOf q1).toNat)
      case atStart => exact S2.out
      case round =>
        obtain ⟨q, r, rfl, rfl, hqr, hkq, hqb, hrb⟩ := hrel
        by_cases hq : 4294967296 ≤ q
        · obtain ⟨p1, p2, p3⟩ := HK2.out.dec hqr (by rw [HKB.out]; exact hkq) (.inl hq); rw [HKB.out] at p2; obtain ⟨p, rfl⟩ : ∃ p, q = p + 1 := ⟨q - 1, by omega⟩
          rw [Nat.add_sub_cancel] at p2 p3; have hqi : (4294967296 : Int) ≤ (p : Int) + 1 := by omega
          by_cases hbr : 4294967296 ≤ r + y1
          · have hbri : (4294967296 : Int) ≤ (r : Int) + (y1 : Int) := by omega
            have hend : p = kb := by rw [← HKB.out]; exact HK2.out.broke p3 (by rw [HKB.out]; exact p2) (by omega) hbr
            have HE := Lib.hid hend; clear p1 p2 p3 hqr hkq hbr hend
            go_wp2_with fail
            go_meet; exact ⟨by rw [← HE.out], rfl⟩
          · have hbri : decide ((4294967296 : Int) ≤ (r : Int) + (y1 : Int)) = false := decide_eq_false (by omega); have hbrj : (r : Int) + (y1 : Int) ≤ 8589934592 := by omega
            have HBR := Lib.hid (Nat.lt_of_not_le hbr); have HP2 := Lib.hid p2; have HP3 := Lib.hid p3; clear p1 p2 p3 hqr hkq hbr
            go_wp2_with fail
            go_round
            case rel => exact ⟨p, r + y1, by go_num, by go_num, HP3.out, HP2.out, by omega, HBR.out⟩
            case measure => simp [intOf]
        · have hq0i : (q : Int) < 4294967296 := by omega
          have hq0b : decide ((4294967296 : Int) ≤ (q : Int)) = false := decide_eq_false (by omega); have hmul : q * y0 ≤ 4294967295 * 4294967295 := Nat.mul_le_mul (by omega) (by omega); have hmuli : (q : Int) * (y0 : Int) < 18446744073709551616 := by rw [← Int.natCast_mul]; omega
          have hmuln : 0 ≤ (q : Int) * (y0 : Int) := by rw [← Int.natCast_mul]; omega
          by_cases hc : 4294967296 * r + d0 < q * y0
          · have hci : 4294967296 * (r : Int) + (d0 : Int) < (q : Int) * (y0 : Int) := by rw [← Int.natCast_mul]; omega
            obtain ⟨p1, p2, p3⟩ := HK2.out.dec hqr (by rw [HKB.out]; exact hkq) (.inr hc); rw [HKB.out] at p2; obtain ⟨p, hp⟩ : ∃ p, q = p + 1 := ⟨q - 1, by omega⟩
            have hpi : (1 : Int) ≤ (q : Int) := by omega
            have HP := Lib.hid hp
            by_cases hbr : 4294967296 ≤ r + y1
            · have hbri : (4294967296 : Int) ≤ (r : Int) + (y1 : Int) := by omega
              have hend : q - 1 = kb := by rw [← HKB.out]; exact HK2.out.broke p3 (by rw [HKB.out]; exact p2) (by omega) hbr
              have HE := Lib.hid hend; clear p1 p2 p3 hqr hkq hbr hend hp hc hmul hq
              go_wp2_with fail
              go_meet; exact ⟨by rw [← HE.out, Int.natCast_sub (by rw [HP.out]; omega)]; rfl, rfl⟩
            · have hbri : decide ((4294967296 : Int) ≤ (r : Int) + (y1 : Int)) = false := decide_eq_false (by omega); have hbrj : (r : Int) + (y1 : Int) ≤ 8589934592 := by omega
              have HBR := Lib.hid (Nat.lt_of_not_le hbr); have HP2 := Lib.hid p2; have HP3 := Lib.hid p3; clear p1 p2 p3 hqr hkq hbr hp hc hmul hq
              go_wp2_with fail
              go_round
              case rel => exact ⟨q - 1, r + y1, by rw [Int.natCast_sub (by rw [HP.out]; omega)]; rfl, by go_num, HP3.out, HP2.out, by omega, HBR.out⟩
              case measure => simp [intOf]; omega
          · obtain ⟨X, hX⟩ : ∃ X : Nat, (q : Int) * (y0 : Int) = (X : Int) := ⟨q * y0, (Int.natCast_mul ..).symm⟩
            obtain ⟨Z, hZ⟩ : ∃ Z : Nat, 4294967296 * (r : Int) + (d0 : Int) = (Z : Int) := ⟨4294967296 * r + d0, by omega⟩
            have hci : X ≤ Z := by
              have h1 : (q * y0 : Nat) = X := by have := hX; rw [← Int.natCast_mul] at this; omega
              omega
            have hXb : (X : Int) < 18446744073709551616 := by rw [← hX]; exact hmuli
            have hdb : decide (Z < X) = false := decide_eq_false (by omega); have hdbi : decide ((Z : Int) < (X : Int)) = false := decide_eq_false (by omega); have hend : q = kb := by rw [← HKB.out]; exact HK2.out.done hqr (by rw [HKB.out]; exact hkq) (Nat.le_of_not_lt hc)
            have HE := Lib.hid hend; clear hqr hkq hc hmul hq hend hci hmuli hmuln hq0i
            go_wp2_with fail
            go_meet; exact ⟨by rw [HE.out], rfl⟩
    case rest =>
      obtain ⟨rfl, rfl⟩ := hcut
      go_wp2_with fail
      go_ret2
      rw [HN.out]; exact ⟨by go_num, rfl⟩
end Go.Proofs.YtngkolcpbgibcaaGreatDoor
