/- dec's whole numbers of 128 bits: widen, narrow, power, isZero, sign, negate, smaller by their contracts. Condition: within the bits. -/
/- dec's whole numbers of 128 bits: sign, times, add, grow by their contracts. Condition: within the bits. -/
/- An act by its slots: for the end of a region that leaves an act by facts. No condition. -/
/- Boxes of a call's own in a region that draws its order: what is kept of them behind each operation. No condition. -/
import Derived.Test.YtngkolcpbgibcaaGreatDoorVl
import Derived.Test.YtngkolcpbgibcaaGreatDoorWide
import Derived.RegionTactic
import Derived.BigRegion
import Derived.Test.YtngkolcpbgibcaaGreatDoorJoin
import Derived.Shelf.Spec.BitsCarry
set_option linter.unusedVariables false
set_option linter.unusedSimpArgs false
namespace Go.Proofs.YtngkolcpbgibcaaGreatDoor
open Go.RowKit
def hi (n : Nat) : Nat := n / 18446744073709551616
def lo (n : Nat) : Nat := n % 18446744073709551616
theorem lo_lt (n : Nat) : lo n < 18446744073709551616 := Nat.mod_lt _ (by decide)
theorem hi_lt {n : Nat} (h : n < 340282366920938463463374607431768211456) : hi n < 18446744073709551616 := by unfold hi; omega
theorem hi_lo (n : Nat) : hi n * 18446744073709551616 + lo n = n := by unfold hi lo; omega
theorem hi_small {n : Nat} (h : n < 18446744073709551616) : hi n = 0 := by unfold hi; omega
theorem lo_small {n : Nat} (h : n < 18446744073709551616) : lo n = n := by unfold lo; omega
def wd (b : Bool) (n : Nat) : Value := .agg #[.bool b, .int .u64 (hi n : Nat), .int .u64 (lo n : Nat)]
theorem wd_small {b : Bool} {n : Nat} (h : n < 18446744073709551616) : wd b n = .agg #[.bool b, .int .u64 0, .int .u64 (n : Nat)] := by
  unfold wd; rw [hi_small h, lo_small h]; rfl
theorem wd_parts (b : Bool) (n : Nat) : wd b n = .agg #[.bool b, .int .u64 (hi n : Nat), .int .u64 (lo n : Nat)] := rfl
theorem bel0 (w : World) (o : Obj) : Below w.heap.size w (w.alloc o) := (Below.refl _ _).alloc (Nat.le_refl _) o
theorem bel1 (w : World) (o o' : Obj) : Below w.heap.size w ((w.alloc o).alloc o') := (bel0 w o).alloc (by simp) o'
theorem bel2 (w : World) (o o' o'' : Obj) : Below w.heap.size w (((w.alloc o).alloc o').alloc o'') := (bel1 w o o').alloc (by simp; omega) o''
theorem bx2 {w w1 : World} {T T' : TypeId} {cs cs' : Array Value} (hb : Below ((w.alloc (.cells cs T)).alloc (.cells cs' T')).heap.size ((w.alloc (.cells cs T)).alloc (.cells cs' T')) w1) :
    Bk w1 w.heap.size T cs ∧ Bk w1 (w.heap.size + 1) T' cs' ∧ Below w.heap.size w w1 ∧ w.heap.size + 2 ≤ w1.heap.size := by
  have k2 := (Bk.new (w.alloc (.cells cs T)) T' cs').below hb (by simp); simp only [World.size_alloc] at k2; exact ⟨((Bk.new w T cs).alloc _).below hb (by simp; omega), k2, (bel1 w _ _).trans (hb.mono (by simp; omega)), by have := hb.size; simp at this; omega⟩
theorem bx3 {w w1 : World} {T T' T'' : TypeId} {cs cs' cs'' : Array Value} (hb : Below (((w.alloc (.cells cs T)).alloc (.cells cs' T')).alloc (.cells cs'' T'')).heap.size (((w.alloc (.cells cs T)).alloc (.cells cs' T')).alloc (.cells cs'' T'')) w1) :
    Bk w1 w.heap.size T cs ∧ Bk w1 (w.heap.size + 1) T' cs' ∧ Bk w1 (w.heap.size + 1 + 1) T'' cs'' ∧ Below w.heap.size w w1 ∧ w.heap.size + 3 ≤ w1.heap.size := by
  have k2 := ((Bk.new (w.alloc (.cells cs T)) T' cs').alloc (.cells cs'' T'')).below hb (by simp); have k3 := (Bk.new ((w.alloc (.cells cs T)).alloc (.cells cs' T')) T'' cs'').below hb (by simp); simp only [World.size_alloc] at k2 k3; exact ⟨(((Bk.new w T cs).alloc _).alloc _).below hb (by simp; omega), k2, k3, (bel2 w _ _ _).trans (hb.mono (by simp; omega)), by have := hb.size; simp at this; omega⟩
theorem widen_any {w : World} {m : Int} (h0 : -9223372036854775808 ≤ m) (h1 : m ≤ 9223372036854775807) :
    Calls Tryz.prog 88 #[.int .i64 m] w fun e w' => e = .returned (wd (decide (m < 0)) m.natAbs) ∧ Below w.heap.size w w' := by
  by_cases h : m < 0
  · have HV := Lib.hid (show wd (decide (m < 0)) m.natAbs = .agg #[.bool true, .int .u64 0, .int .u64 (IntKind.u64.wrap (-IntKind.u64.wrap m))] by
      rw [wd_small (by omega), decide_eq_true h, IntKind.wrap_u64, IntKind.wrap_u64, show ((m.natAbs : Nat) : Int) = -(m % 18446744073709551616) % 18446744073709551616 by omega])
    go_enter Tryz.func88, Tryz.ntmps88; go_wp2; refine bodyPost_ret (v := .agg #[.bool true, .int .u64 0, .int .u64 (IntKind.u64.wrap (-IntKind.u64.wrap m))]) (by simp [results, Tryz.results88, go_sem]) rfl ⟨by rw [HV.out], bel0 _ _⟩
  · have HV := Lib.hid (show wd (decide (m < 0)) m.natAbs = .agg #[.bool false, .int .u64 0, .int .u64 m] by
      rw [wd_small (by omega), decide_eq_false h, show ((m.natAbs : Nat) : Int) = m by omega])
    go_enter Tryz.func88, Tryz.ntmps88; go_wp2; refine bodyPost_ret (v := .agg #[.bool false, .int .u64 0, .int .u64 m]) (by simp [results, Tryz.results88, go_sem]) rfl ⟨by rw [HV.out], bel0 _ _⟩
def nrw (b : Bool) (n : Nat) : Bool := decide (n ≤ most b)
def nrv (b : Bool) (n : Nat) : Int := if n ≤ most b then sgn b n else 0
theorem narrow_any {w : World} {b : Bool} {n : Nat} (hn : n < 340282366920938463463374607431768211456) :
    Calls Tryz.prog 162 #[wd b n] w fun e w' => e = .returned (.tuple #[.int .i64 (nrv b n), .bool (nrw b n)]) ∧ Below w.heap.size w w' := by
  have hl := lo_lt n; have hh := hi_lt hn; have hhl := hi_lo n; unfold wd
  by_cases h : 0 < hi n
  · have HV := Lib.hid (show nrv b n = 0 ∧ nrw b n = false by unfold nrv nrw most; cases b <;> simp <;> omega); generalize hi n = p at *; generalize lo n = q at *; have h' : (0 : Int) < (p : Int) := by omega
    clear hhl
    cases b
    all_goals
      go_enter Tryz.func162, Tryz.ntmps162; go_wp2
      go_ret2
      exact ⟨by rw [HV.out.1, HV.out.2]; rfl, bel0 _ _⟩
  · have h0 : hi n = 0 := by omega
    have hq : lo n = n := by omega
    rw [h0, hq]
    by_cases hm : n ≤ most b
    · have HV := Lib.hid (show nrv b n = sgn b n ∧ nrw b n = true by unfold nrv nrw; simp [hm]); clear h0 hq hhl hh h; rw [show lo n = n by unfold lo at hl ⊢; cases b <;> simp [most] at hm <;> omega] at hl
      cases b
      · have hm' : (n : Int) ≤ 9223372036854775807 := by simp [most] at hm; omega
        go_enter Tryz.func162, Tryz.ntmps162; go_wp2
        go_ret2
        refine ⟨?_, bel0 _ _⟩; rw [HV.out.1, HV.out.2]; simp [sgn]
      · have hm' : (n : Int) ≤ 9223372036854775808 := by simp [most] at hm; omega
        have HE := Lib.hid (show wrap64 (IntKind.u64.wrap (-(n : Int))) = -(n : Int) by rw [IntKind.wrap_u64]; unfold wrap64; omega); go_enter Tryz.func162, Tryz.ntmps162; go_wp2
        go_ret2
        refine ⟨?_, bel0 _ _⟩; rw [HV.out.1, HV.out.2]; simp [sgn, HE.out]
    · have HV := Lib.hid (show nrv b n = 0 ∧ nrw b n = false by unfold nrv nrw; simp [hm]); clear h0 hq hhl hh h; have hl2 : n < 340282366920938463463374607431768211456 := hn
      cases b
      · have hm' : (9223372036854775807 : Int) < (n : Int) := by simp [most] at hm; omega
        go_enter Tryz.func162, Tryz.ntmps162; go_wp2
        go_ret2
        exact ⟨by rw [HV.out.1, HV.out.2]; rfl, bel0 _ _⟩
      · have hm' : (9223372036854775808 : Int) < (n : Int) := by simp [most] at hm; omega
        go_enter Tryz.func162, Tryz.ntmps162; go_wp2
        go_ret2
        exact ⟨by rw [HV.out.1, HV.out.2]; rfl, bel0 _ _⟩
theorem pow10_le {k m : Nat} (h : k ≤ m) : 10 ^ k ≤ 10 ^ m := Nat.pow_le_pow_right (by omega) h
theorem power_any {w : World} {k : Nat} (hk : k ≤ 19) :
    Calls Tryz.prog 96 #[.int .i64 k] w fun e w' => e = .returned (.int .u64 (10 ^ k : Nat)) ∧ w = w' := by
  go_enter Tryz.func96, Tryz.ntmps96; go_wp2
  go_loop [3, 5] (fun p i => ∃ j : Nat, j ≤ k ∧ i = .int .i64 j ∧ p = .int .u64 (10 ^ j : Nat)) (fun _ i => k - (intOf i).toNat)
  case atStart => exact ⟨0, Nat.zero_le _, rfl, rfl⟩
  case round =>
    obtain ⟨j, hj, rfl, rfl⟩ := hrel
    by_cases hjk : j < k
    · have hjk' : (j : Int) < (k : Int) := by omega
      have h1 : 10 ^ (j + 1) ≤ 10 ^ 19 := pow10_le (by omega); have h2 : 10 ^ (j + 1) = 10 ^ j * 10 := Nat.pow_succ ..; have H2 := Lib.hid h2; have h3 : 10 ^ j * 10 ≤ 10000000000000000000 := by rw [← h2]; exact h1
      clear h1 h2; generalize 10 ^ j = x at *; go_wp2
      go_round
      case rel => exact ⟨j + 1, by omega, by go_num, by rw [H2.out]; go_num⟩
      case measure => simp [intOf]; omega
    · have : j = k := by omega
      subst this; go_wp2; go_ret; exact ⟨rfl, rfl⟩
theorem isZero_any {w : World} {b : Bool} {n : Nat} :
    Calls Tryz.prog 163 #[wd b n] w fun e w' => e = .returned (.bool (decide (n = 0))) ∧ Below w.heap.size w w' := by
  have hhl := hi_lo n; unfold wd
  by_cases h0 : hi n = 0
  · by_cases h1 : lo n = 0
    · have HV := Lib.hid (show decide (n = 0) = true by simp; omega); rw [h0, h1]; clear hhl h0 h1; go_enter Tryz.func163, Tryz.ntmps163; go_wp2; go_ret; exact ⟨by rw [HV.out]; rfl, bel0 _ _⟩
    · have HV := Lib.hid (show decide (n = 0) = false by simp; omega); rw [h0]; have h1' : (((lo n : Nat) : Int) == 0) = false := by simp; omega
      clear hhl h0 h1; generalize lo n = q at *; go_enter Tryz.func163, Tryz.ntmps163; go_wp2; go_ret; exact ⟨by rw [HV.out]; rfl, bel0 _ _⟩
  · have HV := Lib.hid (show decide (n = 0) = false by simp; omega); have h1' : (((hi n : Nat) : Int) == 0) = false := by simp; omega
    clear hhl h0; generalize lo n = q at *; generalize hi n = p at *; go_enter Tryz.func163, Tryz.ntmps163; go_wp2; go_ret; exact ⟨by rw [HV.out]; rfl, bel0 _ _⟩
theorem negate_any {w : World} {b : Bool} {n : Nat} :
    Calls Tryz.prog 93 #[wd b n] w fun e w' => e = .returned (wd (!b) n) ∧ Below w.heap.size w w' := by
  unfold wd; generalize lo n = q; generalize hi n = p; go_enter Tryz.func93, Tryz.ntmps93; go_wp2; refine bodyPost_ret (v := .agg #[.bool (!b), .int .u64 (p : Nat), .int .u64 (q : Nat)]) (by simp [results, Tryz.results93, go_sem]) rfl ⟨rfl, bel1 _ _ _⟩
theorem smaller_any {w : World} {a b : Bool} {m n : Nat} :
    Calls Tryz.prog 165 #[wd a m, wd b n] w fun e w' => e = .returned (.bool (decide (m < n))) ∧ Below w.heap.size w w' := by
  have hm := hi_lo m; have hn := hi_lo n; have hm2 := lo_lt m; have hn2 := lo_lt n; unfold wd
  by_cases h0 : hi m < hi n
  · have HV := Lib.hid (show decide (m < n) = true by simp; omega); clear hm hn hm2 hn2; generalize lo n = q; generalize hi n = p at *; generalize lo m = s; generalize hi m = r at *; have h0' : (r : Int) < (p : Int) := by omega
    go_enter Tryz.func165, Tryz.ntmps165; go_wp2; go_ret; exact ⟨by rw [HV.out]; rfl, bel1 _ _ _⟩
  · by_cases h1 : hi m = hi n
    · rw [h1]
      by_cases h2 : lo m < lo n
      · have HV := Lib.hid (show decide (m < n) = true by simp; omega); clear hm hn hm2 hn2 h0 h1; generalize lo n = q at *; generalize hi n = p at *; generalize lo m = s at *; have h0' : (s : Int) < (q : Int) := by omega
        go_enter Tryz.func165, Tryz.ntmps165; go_wp2; go_ret; exact ⟨by rw [HV.out]; rfl, bel1 _ _ _⟩
      · have HV := Lib.hid (show decide (m < n) = false by simp; omega); clear hm hn hm2 hn2 h0 h1; generalize lo n = q at *; generalize hi n = p at *; generalize lo m = s at *; have h0' : ¬ (s : Int) < (q : Int) := by omega
        go_enter Tryz.func165, Tryz.ntmps165; go_wp2; go_ret; exact ⟨by rw [HV.out]; rfl, bel1 _ _ _⟩
    · have HV := Lib.hid (show decide (m < n) = false by simp; omega); clear hm hn hm2 hn2; generalize lo n = q at *; generalize hi n = p at *; generalize lo m = s at *; generalize hi m = r at *; have h0' : ¬ (r : Int) < (p : Int) := by omega
      have h1' : ((r : Int) == (p : Int)) = false := by simp; omega
      clear h0 h1; go_enter Tryz.func165, Tryz.ntmps165; go_wp2; go_ret; exact ⟨by rw [HV.out]; rfl, bel1 _ _ _⟩
end Go.Proofs.YtngkolcpbgibcaaGreatDoor
namespace Go.Proofs.YtngkolcpbgibcaaGreatDoor
open Go.RowKit
theorem add64_run (x y c : Nat) (hc : c ≤ 1) (w : World) :
    (callFunc 164 #[.int .u64 x, .int .u64 y, .int .u64 c]).run Tryz.prog w = .ok (.value (.tuple #[.int .u64 (((x + y + c) % 18446744073709551616 : Nat) : Int), .int .u64 (((x + y + c) / 18446744073709551616 : Nat) : Int)])) w := by
  rw [run_callFunc_extern Tryz.func164 (by kernel_rfl) (by kernel_rfl) (by kernel_rfl) (e := add64Entry) (by kernel_rfl), run_add64 x y c (by omega) (by omega) (by omega) (by omega)]; simp only [Result.andThen]
  congr 5 <;> omega
theorem sub64_run (x y c : Nat) (hc : c ≤ 1) (w : World) :
    (callFunc 166 #[.int .u64 x, .int .u64 y, .int .u64 c]).run Tryz.prog w = .ok (.value (.tuple #[.int .u64 (((x + 18446744073709551616 - y - c) % 18446744073709551616 : Nat) : Int), .int .u64 ((if x < y + c then 1 else 0 : Nat) : Int)])) w := by
  rw [run_callFunc_extern Tryz.func166 (by kernel_rfl) (by kernel_rfl) (by kernel_rfl) (e := sub64Entry) (by kernel_rfl), run_sub64 x y c hc]; rfl
theorem bcell {W w1 : World} (hb : Below W.heap.size W w1) : (∀ b o, b < W.heap.size → w1.cell? ⟨b, o, none⟩ = W.cell? ⟨b, o, none⟩) ∧ (∀ b o, b < W.heap.size → w1.frozen? ⟨b, o, none⟩ = W.frozen? ⟨b, o, none⟩) :=
  ⟨fun b o h => hb.cell (p := ⟨b, o, none⟩) h, fun b o h => hb.frozen (p := ⟨b, o, none⟩) h⟩
theorem sign_any {w : World} {b : Bool} {n : Nat} :
    Calls Tryz.prog 90 #[wd b n] w fun e w' => e = .returned (.int .i64 (cmp (sgn b n) 0)) ∧ Below w.heap.size w w' := by
  by_cases h0 : n = 0
  · have HV := Lib.hid (show cmp (sgn b n) 0 = 0 by subst h0; unfold cmp sgn; cases b <;> simp); have HZ := Lib.hid (show decide (n = 0) = true by simp [h0]); clear h0; have HW := Lib.hid (wd_parts b n); rw [HW.out]; go_enter Tryz.func90, Tryz.ntmps90
    go_wp2_with fail
    rw [← HW.out]; refine isZero_any.mono ?_; rintro e w1 ⟨rfl, hb⟩; rw [HZ.out]; have hb' := (bel0 w _).trans (hb.mono (by simp)); clear hb; go_wp2; go_ret; exact ⟨by rw [HV.out]; rfl, hb'⟩
  · have HZ := Lib.hid (show decide (n = 0) = false by simp [h0])
    cases b
    · have HV := Lib.hid (show cmp (sgn false n) 0 = 1 by unfold cmp sgn; simp [h0]); clear h0; have HW := Lib.hid (wd_parts false n); rw [HW.out]; go_enter Tryz.func90, Tryz.ntmps90
      go_wp2_with fail
      rw [← HW.out]; refine isZero_any.mono ?_; rintro e w1 ⟨rfl, hb⟩; rw [HZ.out]; have hb' := (bel0 w _).trans (hb.mono (by simp)); have k1 := (Bk.new w 119 #[.bool false, .int .u64 (hi n : Nat), .int .u64 (lo n : Nat)]).below hb (by simp); have c0 := k1.cell 0; clear hb k1; go_wp2; go_ret; exact ⟨by rw [HV.out]; rfl, hb'⟩
    · have HV := Lib.hid (show cmp (sgn true n) 0 = -1 by unfold cmp sgn; simp; omega); clear h0; have HW := Lib.hid (wd_parts true n); rw [HW.out]; go_enter Tryz.func90, Tryz.ntmps90
      go_wp2_with fail
      rw [← HW.out]; refine isZero_any.mono ?_; rintro e w1 ⟨rfl, hb⟩; rw [HZ.out]; have hb' := (bel0 w _).trans (hb.mono (by simp)); have k1 := (Bk.new w 119 #[.bool true, .int .u64 (hi n : Nat), .int .u64 (lo n : Nat)]).below hb (by simp); have c0 := k1.cell 0; clear hb k1; go_wp2; go_ret; exact ⟨by rw [HV.out]; rfl, hb'⟩
theorem hl_mul {n k : Nat} (h : n * k < 340282366920938463463374607431768211456) :
    hi (n * k) = hi n * k + lo n * k / 18446744073709551616 ∧ lo (n * k) = lo n * k % 18446744073709551616 ∧ hi n * k + lo n * k / 18446744073709551616 < 18446744073709551616 := by
  have e : n * k = hi n * k * 18446744073709551616 + lo n * k := by
    conv => lhs; rw [← hi_lo n]
    rw [Nat.add_mul, Nat.mul_right_comm]
  have h1 : hi (n * k) = hi n * k + lo n * k / 18446744073709551616 := by
    show n * k / 18446744073709551616 = _
    omega
  refine ⟨h1, ?_, by rw [← h1]; exact hi_lt h⟩
  show n * k % 18446744073709551616 = _
  omega
theorem times_any {w : World} {b : Bool} {n k : Nat} (hk : k < 18446744073709551616) (h : n * k < 340282366920938463463374607431768211456) :
    Calls Tryz.prog 95 #[wd b n, .int .u64 k] w fun e w' => e = .returned (wd b (n * k)) ∧ Below w.heap.size w w' := by
  obtain ⟨h1, h2, h3⟩ := hl_mul h; have HM := Lib.hid (fun w => Tryz.bits_Mul64 (lo n) k (lo_lt n) hk w); generalize lo n * k / 18446744073709551616 = u at *; generalize lo n * k % 18446744073709551616 = v at *
  have HV := Lib.hid (show wd b (n * k) = .agg #[.bool b, .int .u64 (((hi n : Nat) : Int) * (k : Int) + (u : Int)), .int .u64 (v : Int)] by
    unfold wd; rw [h1, h2, Int.natCast_add, Int.natCast_mul])
  have h3' : ((hi n : Nat) : Int) * (k : Int) + (u : Int) < 18446744073709551616 := by rw [← Int.natCast_mul, ← Int.natCast_add]; omega
  have h4' : 0 ≤ ((hi n : Nat) : Int) * (k : Int) := Int.mul_nonneg (by omega) (by omega); clear h1 h2 h3 h hk; rw [wd_parts b n]; go_enter Tryz.func95, Tryz.ntmps95
  go_wp2_with fail
  refine (HM.out _).mono ?_; rintro e w1 ⟨rfl, rfl⟩; go_wp2; refine bodyPost_ret (v := .agg #[.bool b, .int .u64 (((hi n : Nat) : Int) * (k : Int) + (u : Int)), .int .u64 (v : Int)]) (by simp [results, Tryz.results95, go_sem]) rfl ⟨by rw [HV.out], bel1 _ _ _⟩
theorem hl_add (m n : Nat) (h : m + n < 340282366920938463463374607431768211456) :
    lo (m + n) = (lo m + lo n + 0) % 18446744073709551616 ∧ hi (m + n) = (hi m + hi n + (lo m + lo n + 0) / 18446744073709551616) % 18446744073709551616 ∧ (lo m + lo n + 0) / 18446744073709551616 ≤ 1 := by
  unfold hi lo; omega
theorem hl_sub (m n : Nat) (h : n ≤ m) (hm : m < 340282366920938463463374607431768211456) :
    lo (m - n) = (lo m + 18446744073709551616 - lo n - 0) % 18446744073709551616 ∧ hi (m - n) = (hi m + 18446744073709551616 - hi n - (if lo m < lo n + 0 then 1 else 0)) % 18446744073709551616 ∧ (if lo m < lo n + 0 then 1 else 0) ≤ 1 := by
  unfold hi lo
  split <;> omega
set_option maxRecDepth 100000 in
theorem add_any {w : World} {a b : Bool} {m n : Nat} (h : m + n < 340282366920938463463374607431768211456) :
    Calls Tryz.prog 91 #[wd a m, wd b n] w fun e w' => e = .returned (wd (adb a b m n) (adn a b m n)) ∧ Below w.heap.size w w' := by
  by_cases hab : a = b
  · subst hab; obtain ⟨h1, h2, h3⟩ := hl_add m n h; have HA : Hid (∀ w, (callFunc 164 #[.int .u64 (lo m : Nat), .int .u64 (lo n : Nat), .int .u64 0]).run Tryz.prog w = .ok (.value (.tuple #[.int .u64 (((lo m + lo n + 0) % 18446744073709551616 : Nat) : Int), .int .u64 (((lo m + lo n + 0) / 18446744073709551616 : Nat) : Int)])) w) := Lib.hid (fun w => add64_run (lo m) (lo n) 0 (by omega) w); generalize (lo m + lo n + 0) / 18446744073709551616 = q at *; generalize (lo m + lo n + 0) % 18446744073709551616 = r at *; have HB := Lib.hid (fun w => add64_run (hi m) (hi n) q h3 w); generalize (hi m + hi n + q) / 18446744073709551616 = q' at *; generalize (hi m + hi n + q) % 18446744073709551616 = r' at *
    have HV := Lib.hid (show wd (adb a a m n) (adn a a m n) = .agg #[.bool a, .int .u64 (r' : Int), .int .u64 (r : Int)] by
      unfold wd adb adn; rw [if_pos rfl, if_pos rfl, h1, h2])
    clear h1 h2 h3 h; rw [wd_parts a m, wd_parts a n]; go_enter Tryz.func91, Tryz.ntmps91
    go_wp2_with (first | (rw [HA.out]) | (rw [HB.out]))
    refine bodyPost_ret (v := .agg #[.bool a, .int .u64 (r' : Int), .int .u64 (r : Int)]) (by simp [results, Tryz.results91, go_sem]) rfl ⟨by rw [HV.out], bel2 _ _ _ _⟩
  · have hne : (a == b) = false := by simpa using hab
    by_cases hlt : m < n
    · obtain ⟨h1, h2, h3⟩ := hl_sub n m (by omega) (by omega); have HA : Hid (∀ w, (callFunc 166 #[.int .u64 (lo n : Nat), .int .u64 (lo m : Nat), .int .u64 0]).run Tryz.prog w = .ok (.value (.tuple #[.int .u64 (((lo n + 18446744073709551616 - lo m - 0) % 18446744073709551616 : Nat) : Int), .int .u64 ((if lo n < lo m + 0 then 1 else 0 : Nat) : Int)])) w) := Lib.hid (fun w => sub64_run (lo n) (lo m) 0 (by omega) w); generalize (lo n + 18446744073709551616 - lo m - 0) % 18446744073709551616 = r at *; generalize (if lo n < lo m + 0 then 1 else 0) = q at *; have HB := Lib.hid (fun w => sub64_run (hi n) (hi m) q h3 w); generalize (hi n + 18446744073709551616 - hi m - q) % 18446744073709551616 = r' at *; generalize (if hi n < hi m + q then 1 else 0) = q' at *
      have HV := Lib.hid (show wd (adb a b m n) (adn a b m n) = .agg #[.bool b, .int .u64 (r' : Int), .int .u64 (r : Int)] by
        rw [wd_parts]; unfold adb adn; rw [if_neg hab, if_neg hab, if_pos hlt, if_pos hlt, h1, h2])
      have HS := Lib.hid (show decide (m < n) = true by simp [hlt]); clear h1 h2 h3 h hlt hab; rw [wd_parts a m, wd_parts b n]; go_enter Tryz.func91, Tryz.ntmps91
      go_wp2_with fail
      refine (smaller_any (a := a) (b := b) (m := m) (n := n)).mono ?_; rintro e w1 ⟨rfl, hb⟩; rw [HS.out]; obtain ⟨k1, k2, k3, hb', -⟩ := bx3 hb; clear hb; have c10 := k1.cell 0; have c11 := k1.cell 1; have c12 := k1.cell 2; have c20 := k2.cell 0; have c21 := k2.cell 1; have c22 := k2.cell 2; have z10 := k1.frozen 0; have z11 := k1.frozen 1; have z12 := k1.frozen 2; have z20 := k2.frozen 0; have z21 := k2.frozen 1; have z22 := k2.frozen 2; have z30 := k3.frozen 0; have z31 := k3.frozen 1; have z32 := k3.frozen 2; have c30 := k3.cell 0; have c31 := k3.cell 1; have c32 := k3.cell 2; clear k1 k2 k3
      go_wp2_with (first | (rw [HA.out]) | (rw [HB.out]))
      refine bodyPost_ret (v := .agg #[.bool b, .int .u64 (r' : Int), .int .u64 (r : Int)]) (by simp [results, Tryz.results91, go_sem, c30, c31, c32]) rfl ⟨by rw [HV.out], (((((((((hb'.setCell (by simp <;> omega) _).setCell (by simp <;> omega) _).setCell (by simp <;> omega) _).setCell (by simp <;> omega) _).setCell (by simp <;> omega) _).setCell (by simp <;> omega) _).setCell (by simp <;> omega) _).setCell (by simp <;> omega) _).setCell (by simp <;> omega) _)⟩
    · obtain ⟨h1, h2, h3⟩ := hl_sub m n (by omega) (by omega); have HA : Hid (∀ w, (callFunc 166 #[.int .u64 (lo m : Nat), .int .u64 (lo n : Nat), .int .u64 0]).run Tryz.prog w = .ok (.value (.tuple #[.int .u64 (((lo m + 18446744073709551616 - lo n - 0) % 18446744073709551616 : Nat) : Int), .int .u64 ((if lo m < lo n + 0 then 1 else 0 : Nat) : Int)])) w) := Lib.hid (fun w => sub64_run (lo m) (lo n) 0 (by omega) w); generalize (lo m + 18446744073709551616 - lo n - 0) % 18446744073709551616 = r at *; generalize (if lo m < lo n + 0 then 1 else 0) = q at *; have HB := Lib.hid (fun w => sub64_run (hi m) (hi n) q h3 w); generalize (hi m + 18446744073709551616 - hi n - q) % 18446744073709551616 = r' at *; generalize (if hi m < hi n + q then 1 else 0) = q' at *
      have HV := Lib.hid (show wd (adb a b m n) (adn a b m n) = .agg #[.bool a, .int .u64 (r' : Int), .int .u64 (r : Int)] by
        rw [wd_parts]; unfold adb adn; rw [if_neg hab, if_neg hab, if_neg hlt, if_neg hlt, h1, h2])
      have HS := Lib.hid (show decide (m < n) = false by simp; omega); clear h1 h2 h3 h hlt hab; rw [wd_parts a m, wd_parts b n]; go_enter Tryz.func91, Tryz.ntmps91
      go_wp2_with fail
      refine (smaller_any (a := a) (b := b) (m := m) (n := n)).mono ?_; rintro e w1 ⟨rfl, hb⟩; rw [HS.out]; obtain ⟨k1, k2, k3, hb', -⟩ := bx3 hb; clear hb; have c10 := k1.cell 0; have c11 := k1.cell 1; have c12 := k1.cell 2; have c20 := k2.cell 0; have c21 := k2.cell 1; have c22 := k2.cell 2; have z30 := k3.frozen 0; have z31 := k3.frozen 1; have z32 := k3.frozen 2; have c30 := k3.cell 0; have c31 := k3.cell 1; have c32 := k3.cell 2; clear k1 k2 k3
      go_wp2_with (first | (rw [HA.out]) | (rw [HB.out]))
      refine bodyPost_ret (v := .agg #[.bool a, .int .u64 (r' : Int), .int .u64 (r : Int)]) (by simp [results, Tryz.results91, go_sem, c30, c31, c32]) rfl ⟨by rw [HV.out], (((hb'.setCell (by simp <;> omega) _).setCell (by simp <;> omega) _).setCell (by simp <;> omega) _)⟩
theorem grow_any {w : World} {b : Bool} {n : Nat} (h : n + 1 < 340282366920938463463374607431768211456) :
    Calls Tryz.prog 97 #[wd b n] w fun e w' => e = .returned (wd b (n + 1)) ∧ Below w.heap.size w w' := by
  have HV := Lib.hid (show wd (adb b b n 1) (adn b b n 1) = wd b (n + 1) by unfold adb adn; rw [if_pos rfl, if_pos rfl])
  have HA : Hid (∀ w, Calls Tryz.prog 91 #[.agg #[.bool b, .int .u64 (hi n : Nat), .int .u64 (lo n : Nat)], .agg #[.bool b, .int .u64 0, .int .u64 1]] w fun e w' => e = .returned (.agg #[.bool b, .int .u64 (hi (n + 1) : Nat), .int .u64 (lo (n + 1) : Nat)]) ∧ Below w.heap.size w w') := Lib.hid (fun w => by
    have := add_any (w := w) (a := b) (b := b) (m := n) (n := 1) h; rw [HV.out] at this
    exact this)
  rw [wd_parts b n, wd_parts b (n + 1)]; generalize hi (n + 1) = p at *; generalize lo (n + 1) = q at *; clear HV h; go_enter Tryz.func97, Tryz.ntmps97
  go_wp2_with fail
  refine (HA.out _).mono ?_; rintro e w1 ⟨rfl, hb⟩; obtain ⟨k1, k2, hb', -⟩ := bx2 hb; clear hb; have c20 := k2.cell 0; have c21 := k2.cell 1; have c22 := k2.cell 2; have z20 := k2.frozen 0; have z21 := k2.frozen 1; have z22 := k2.frozen 2; clear k1 k2; go_wp2; refine bodyPost_ret (v := .agg #[.bool b, .int .u64 (p : Int), .int .u64 (q : Int)]) (by simp [results, Tryz.results97, go_sem, c20, c21, c22]) rfl ⟨rfl, (((hb'.setCell (by simp <;> omega) _).setCell (by simp <;> omega) _).setCell (by simp <;> omega) _)⟩
end Go.Proofs.YtngkolcpbgibcaaGreatDoor
namespace Go.Proofs.YtngkolcpbgibcaaGreatDoor
open Go.RowKit
theorem act_lit (n : Nat) (x : Act) (hd : x.defers = []) (hs : x.tmps.size = n) : x = { tmps := ((List.range n).map fun i => x.tmps.getD i undef).toArray, defers := [] } := by
  obtain ⟨t, d⟩ := x; simp only at hd hs ⊢; subst hd
  congr 1
  apply Array.ext
  · simp [hs]
  · intro i h1 h2; simp [Array.getD_eq_getD_getElem?, h1]
end Go.Proofs.YtngkolcpbgibcaaGreatDoor
namespace Go.Proofs.YtngkolcpbgibcaaGreatDoor
open Go.RowKit
structure SB (w : World) (n : Nat) (bs : List (Nat × TypeId × Array Value)) (W : World) : Prop where
  bel : Below w.heap.size w W
  size : w.heap.size + n ≤ W.heap.size
  bk : ∀ x ∈ bs, Bk W x.1 x.2.1 x.2.2
section
variable {w W W' : World} {n g : Nat} {T : TypeId} {bs bs' : List (Nat × TypeId × Array Value)} {cs z : Array Value} {vals : List Value}
theorem SB.call (h : SB w n bs W) (hb : Below W.heap.size W W') : SB w n bs W' :=
  ⟨h.bel.trans (hb.mono h.bel.size), Nat.le_trans h.size hb.size, fun x hx => (h.bk x hx).below hb (h.bk x hx).lt⟩
theorem SB.drew (h : SB w n bs W) : SB w n bs W.drew := ⟨h.bel.drew, h.size, h.bk⟩
theorem SB.alloc (h : SB w n bs W) (T : TypeId) (cs : Array Value) : SB w n ((W.heap.size, T, cs) :: bs) (W.alloc (.cells cs T)) := by
  refine ⟨h.bel.alloc h.bel.size _, Nat.le_trans h.size (by simp), fun x hx => ?_⟩
  rcases List.mem_cons.1 hx with rfl | hx
  · exact Bk.new W T cs
  · exact (h.bk x hx).alloc _
theorem SB.tail {x : Nat × TypeId × Array Value} (h : SB w n (x :: bs) W) : SB w n bs W := ⟨h.bel, h.size, fun y hy => h.bk y (List.mem_cons_of_mem _ hy)⟩
theorem SB.set (h : SB w n ((g, T, cs) :: bs) W) (hg : w.heap.size ≤ g) (hne : ∀ x ∈ bs, x.1 ≠ g) (i : Nat) (u : Value) :
    SB w n ((g, T, cs.setIfInBounds i u) :: bs) (W.setCell ⟨g, i, none⟩ u) := by
  refine ⟨h.bel.setCell hg _, by have := h.size; simpa [World.setCell] using this, fun x hx => ?_⟩
  rcases List.mem_cons.1 hx with rfl | hx
  · exact (h.bk _ (List.mem_cons_self ..)).set_ i u
  · have hk := h.bk x (List.mem_cons_of_mem _ hx); have hn := hne x hx; unfold Bk at hk ⊢; rw [Below.heap_setCell W ⟨g, i, none⟩ u x.1 hn]; exact hk
theorem SB.set3 {a b c : Value} (h : SB w n ((g, T, #[a, b, c]) :: bs) W) (hg : w.heap.size ≤ g) (hne : ∀ x ∈ bs, x.1 ≠ g) (u0 u1 u2 : Value) :
    SB w n ((g, T, #[u0, u1, u2]) :: bs) (((W.setCell ⟨g, 0, none⟩ u0).setCell ⟨g, 1, none⟩ u1).setCell ⟨g, 2, none⟩ u2) := by
  have := ((h.set hg hne 0 u0).set hg hne 1 u1).set hg hne 2 u2
  simpa using this
theorem SB.set2 {a b : Value} (h : SB w n ((g, T, #[a, b]) :: bs) W) (hg : w.heap.size ≤ g) (hne : ∀ x ∈ bs, x.1 ≠ g) (u0 u1 : Value) :
    SB w n ((g, T, #[u0, u1]) :: bs) ((W.setCell ⟨g, 0, none⟩ u0).setCell ⟨g, 1, none⟩ u1) := by
  have := (h.set hg hne 0 u0).set hg hne 1 u1
  simpa using this
def S1 (w : World) (n : Nat) (bs bs' : List (Nat × TypeId × Array Value)) : List Value → World → Prop
  | [], W => SB w n bs W
  | _ :: _, W => SB w n bs' W
theorem S1.bk (h : S1 w n bs bs' vals W) {x : Nat × TypeId × Array Value} (h1 : x ∈ bs) (h2 : x ∈ bs') : Bk W x.1 x.2.1 x.2.2 := by
  match vals, h with
  | [], h => exact SB.bk h x h1
  | _ :: _, h => exact SB.bk h x h2
theorem S1.call (h : S1 w n bs bs' vals W) (hb : Below W.heap.size W W') : S1 w n bs bs' vals W' := by
  match vals, h with
  | [], h => exact SB.call h hb
  | _ :: _, h => exact SB.call h hb
def S2 (w : World) (n : Nat) (bs : List (Nat × TypeId × Array Value)) (T : TypeId) (z cs : Array Value) : List Value → World → Prop
  | [], W => SB w n bs W
  | [v], W => ∃ g, v = .pointer (some ⟨g, 0, none⟩) ∧ w.heap.size + n ≤ g ∧ SB w n ((g, T, z) :: bs) W
  | v :: _ :: _, W => ∃ g, v = .pointer (some ⟨g, 0, none⟩) ∧ w.heap.size + n ≤ g ∧ SB w n ((g, T, cs) :: bs) W
theorem S2.bk (h : S2 w n bs T z cs vals W) {x : Nat × TypeId × Array Value} (h1 : x ∈ bs) : Bk W x.1 x.2.1 x.2.2 := by
  match vals, h with
  | [], h => exact SB.bk h x h1
  | [_], ⟨g, _, _, h⟩ => exact h.bk x (List.mem_cons_of_mem _ h1)
  | _ :: _ :: _, ⟨g, _, _, h⟩ => exact h.bk x (List.mem_cons_of_mem _ h1)
theorem S2.call (h : S2 w n bs T z cs vals W) (hb : Below W.heap.size W W') : S2 w n bs T z cs vals W' := by
  match vals, h with
  | [], h => exact SB.call h hb
  | [_], ⟨g, h1, h2, h⟩ => exact ⟨g, h1, h2, SB.call h hb⟩
  | _ :: _ :: _, ⟨g, h1, h2, h⟩ => exact ⟨g, h1, h2, SB.call h hb⟩
theorem sb1 (w : World) (T : TypeId) (cs : Array Value) : SB w 1 [(w.heap.size, T, cs)] (w.alloc (.cells cs T)) :=
  ⟨bel0 w _, by simp, fun x hx => by
    obtain rfl := List.mem_singleton.1 hx
    exact Bk.new w T cs⟩
theorem SB.push (h : SB w n bs W) (hs : W.heap.size = w.heap.size + n) (T : TypeId) (cs : Array Value) : SB w (n + 1) ((w.heap.size + n, T, cs) :: bs) (W.alloc (.cells cs T)) := by
  have h1 := h.alloc T cs; rw [hs] at h1; exact ⟨h1.bel, by simp; omega, h1.bk⟩
end
theorem power_b {w : World} {k : Nat} (hk : k ≤ 19) :
    Calls Tryz.prog 96 #[.int .i64 k] w fun e w' => e = .returned (.int .u64 (10 ^ k : Nat)) ∧ Below w.heap.size w w' :=
  (power_any hk).mono fun _ _ ⟨h1, h2⟩ => ⟨h1, h2 ▸ Below.refl _ _⟩
end Go.Proofs.YtngkolcpbgibcaaGreatDoor
