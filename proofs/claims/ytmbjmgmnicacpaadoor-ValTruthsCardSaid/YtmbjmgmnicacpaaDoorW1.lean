/- dec's whole numbers of 128 bits: widen, narrow, power, isZero, sign, negate, smaller by their contracts. Condition: within the bits. -/
import Derived.Test.YtmbjmgmnicacpaaDoorBytes
import Derived.Test.YtmbjmgmnicacpaaDoorWide
import Derived.RegionTactic
import Derived.BigRegion
namespace Go.Proofs.YtmbjmgmnicacpaaDoor
open Go.RowKit

/-- The higher and the lower half of a number of 128 bits. -/
def hi (n : Nat) : Nat := n / 18446744073709551616
def lo (n : Nat) : Nat := n % 18446744073709551616
theorem lo_lt (n : Nat) : lo n < 18446744073709551616 := Nat.mod_lt _ (by decide)
theorem hi_lt {n : Nat} (h : n < 340282366920938463463374607431768211456) : hi n < 18446744073709551616 := by unfold hi; omega
theorem hi_lo (n : Nat) : hi n * 18446744073709551616 + lo n = n := by unfold hi lo; omega
theorem hi_small {n : Nat} (h : n < 18446744073709551616) : hi n = 0 := by unfold hi; omega
theorem lo_small {n : Nat} (h : n < 18446744073709551616) : lo n = n := by unfold lo; omega
/-- A number of 128 bits, sign apart. -/
def wd (b : Bool) (n : Nat) : Value := .agg #[.bool b, .int .u64 (hi n : Nat), .int .u64 (lo n : Nat)]
theorem wd_small {b : Bool} {n : Nat} (h : n < 18446744073709551616) : wd b n = .agg #[.bool b, .int .u64 0, .int .u64 (n : Nat)] := by
  unfold wd; rw [hi_small h, lo_small h]; rfl

theorem wd_parts (b : Bool) (n : Nat) : wd b n = .agg #[.bool b, .int .u64 (hi n : Nat), .int .u64 (lo n : Nat)] := rfl

theorem bel0 (w : World) (o : Obj) : Below w.heap.size w (w.alloc o) := (Below.refl _ _).alloc (Nat.le_refl _) o
theorem bel1 (w : World) (o o' : Obj) : Below w.heap.size w ((w.alloc o).alloc o') := (bel0 w o).alloc (by simp) o'
theorem bel2 (w : World) (o o' o'' : Obj) : Below w.heap.size w (((w.alloc o).alloc o').alloc o'') := (bel1 w o o').alloc (by simp; omega) o''

/-- The boxes of a call's own, behind a call. -/
theorem bx1 {w w1 : World} {T : TypeId} {cs : Array Value} (hb : Below (w.alloc (.cells cs T)).heap.size (w.alloc (.cells cs T)) w1) :
    Bk w1 w.heap.size T cs ∧ Below w.heap.size w w1 ∧ w.heap.size + 1 ≤ w1.heap.size :=
  ⟨(Bk.new w T cs).below hb (by simp), (bel0 w _).trans (hb.mono (by simp)), by have := hb.size; simp at this; omega⟩
theorem bx2 {w w1 : World} {T T' : TypeId} {cs cs' : Array Value} (hb : Below ((w.alloc (.cells cs T)).alloc (.cells cs' T')).heap.size ((w.alloc (.cells cs T)).alloc (.cells cs' T')) w1) :
    Bk w1 w.heap.size T cs ∧ Bk w1 (w.heap.size + 1) T' cs' ∧ Below w.heap.size w w1 ∧ w.heap.size + 2 ≤ w1.heap.size := by
  have k2 := (Bk.new (w.alloc (.cells cs T)) T' cs').below hb (by simp)
  simp only [World.size_alloc] at k2
  exact ⟨((Bk.new w T cs).alloc _).below hb (by simp; omega), k2, (bel1 w _ _).trans (hb.mono (by simp; omega)), by have := hb.size; simp at this; omega⟩
theorem bx3 {w w1 : World} {T T' T'' : TypeId} {cs cs' cs'' : Array Value} (hb : Below (((w.alloc (.cells cs T)).alloc (.cells cs' T')).alloc (.cells cs'' T'')).heap.size (((w.alloc (.cells cs T)).alloc (.cells cs' T')).alloc (.cells cs'' T'')) w1) :
    Bk w1 w.heap.size T cs ∧ Bk w1 (w.heap.size + 1) T' cs' ∧ Bk w1 (w.heap.size + 1 + 1) T'' cs'' ∧ Below w.heap.size w w1 ∧ w.heap.size + 3 ≤ w1.heap.size := by
  have k2 := ((Bk.new (w.alloc (.cells cs T)) T' cs').alloc (.cells cs'' T'')).below hb (by simp)
  have k3 := (Bk.new ((w.alloc (.cells cs T)).alloc (.cells cs' T')) T'' cs'').below hb (by simp)
  simp only [World.size_alloc] at k2 k3
  exact ⟨(((Bk.new w T cs).alloc _).alloc _).below hb (by simp; omega), k2, k3, (bel2 w _ _ _).trans (hb.mono (by simp; omega)), by have := hb.size; simp at this; omega⟩

theorem widen_any {w : World} {m : Int} (h0 : -9223372036854775808 ≤ m) (h1 : m ≤ 9223372036854775807) :
    Calls Tryd.prog 45 #[.int .i64 m] w fun e w' => e = .returned (wd (decide (m < 0)) m.natAbs) ∧ Below w.heap.size w w' := by
  by_cases h : m < 0
  · have HV := Lib.hid (show wd (decide (m < 0)) m.natAbs = .agg #[.bool true, .int .u64 0, .int .u64 (IntKind.u64.wrap (-IntKind.u64.wrap m))] by
      rw [wd_small (by omega), decide_eq_true h, IntKind.wrap_u64, IntKind.wrap_u64, show ((m.natAbs : Nat) : Int) = -(m % 18446744073709551616) % 18446744073709551616 by omega])
    go_enter Tryd.func45, Tryd.ntmps45
    go_wp2
    refine bodyPost_ret (v := .agg #[.bool true, .int .u64 0, .int .u64 (IntKind.u64.wrap (-IntKind.u64.wrap m))]) (by simp [results, Tryd.results45, go_sem]) rfl ⟨by rw [HV.out], bel0 _ _⟩
  · have HV := Lib.hid (show wd (decide (m < 0)) m.natAbs = .agg #[.bool false, .int .u64 0, .int .u64 m] by
      rw [wd_small (by omega), decide_eq_false h, show ((m.natAbs : Nat) : Int) = m by omega])
    go_enter Tryd.func45, Tryd.ntmps45
    go_wp2
    refine bodyPost_ret (v := .agg #[.bool false, .int .u64 0, .int .u64 m]) (by simp [results, Tryd.results45, go_sem]) rfl ⟨by rw [HV.out], bel0 _ _⟩

/-- What narrow tells. -/
def nrw (b : Bool) (n : Nat) : Bool := decide (n ≤ most b)
def nrv (b : Bool) (n : Nat) : Int := if n ≤ most b then sgn b n else 0

theorem narrow_any {w : World} {b : Bool} {n : Nat} (hn : n < 340282366920938463463374607431768211456) :
    Calls Tryd.prog 52 #[wd b n] w fun e w' => e = .returned (.tuple #[.int .i64 (nrv b n), .bool (nrw b n)]) ∧ Below w.heap.size w w' := by
  have hl := lo_lt n
  have hh := hi_lt hn
  have hhl := hi_lo n
  unfold wd
  by_cases h : 0 < hi n
  · have HV := Lib.hid (show nrv b n = 0 ∧ nrw b n = false by unfold nrv nrw most; cases b <;> simp <;> omega)
    generalize hi n = p at *
    generalize lo n = q at *
    have h' : (0 : Int) < (p : Int) := by omega
    clear hhl
    cases b
    all_goals
      go_enter Tryd.func52, Tryd.ntmps52
      go_wp2
      go_ret2
      exact ⟨by rw [HV.out.1, HV.out.2]; rfl, bel0 _ _⟩
  · have h0 : hi n = 0 := by omega
    have hq : lo n = n := by omega
    rw [h0, hq]
    by_cases hm : n ≤ most b
    · have HV := Lib.hid (show nrv b n = sgn b n ∧ nrw b n = true by unfold nrv nrw; simp [hm])
      clear h0 hq hhl hh h
      rw [show lo n = n by unfold lo at hl ⊢; cases b <;> simp [most] at hm <;> omega] at hl
      cases b
      · have hm' : (n : Int) ≤ 9223372036854775807 := by simp [most] at hm; omega
        go_enter Tryd.func52, Tryd.ntmps52
        go_wp2
        go_ret2
        refine ⟨?_, bel0 _ _⟩
        rw [HV.out.1, HV.out.2]
        simp [sgn]
      · have hm' : (n : Int) ≤ 9223372036854775808 := by simp [most] at hm; omega
        have HE := Lib.hid (show wrap64 (IntKind.u64.wrap (-(n : Int))) = -(n : Int) by rw [IntKind.wrap_u64]; unfold wrap64; omega)
        go_enter Tryd.func52, Tryd.ntmps52
        go_wp2
        go_ret2
        refine ⟨?_, bel0 _ _⟩
        rw [HV.out.1, HV.out.2]
        simp [sgn, HE.out]
    · have HV := Lib.hid (show nrv b n = 0 ∧ nrw b n = false by unfold nrv nrw; simp [hm])
      clear h0 hq hhl hh h
      have hl2 : n < 340282366920938463463374607431768211456 := hn
      cases b
      · have hm' : (9223372036854775807 : Int) < (n : Int) := by simp [most] at hm; omega
        go_enter Tryd.func52, Tryd.ntmps52
        go_wp2
        go_ret2
        exact ⟨by rw [HV.out.1, HV.out.2]; rfl, bel0 _ _⟩
      · have hm' : (9223372036854775808 : Int) < (n : Int) := by simp [most] at hm; omega
        go_enter Tryd.func52, Tryd.ntmps52
        go_wp2
        go_ret2
        exact ⟨by rw [HV.out.1, HV.out.2]; rfl, bel0 _ _⟩

theorem pow10_le {k m : Nat} (h : k ≤ m) : 10 ^ k ≤ 10 ^ m := Nat.pow_le_pow_right (by omega) h

theorem power_any {w : World} {k : Nat} (hk : k ≤ 19) :
    Calls Tryd.prog 46 #[.int .i64 k] w fun e w' => e = .returned (.int .u64 (10 ^ k : Nat)) ∧ w = w' := by
  go_enter Tryd.func46, Tryd.ntmps46
  go_wp2
  go_loop [3, 5] (fun p i => ∃ j : Nat, j ≤ k ∧ i = .int .i64 j ∧ p = .int .u64 (10 ^ j : Nat)) (fun _ i => k - (intOf i).toNat)
  case atStart => exact ⟨0, Nat.zero_le _, rfl, rfl⟩
  case round =>
    obtain ⟨j, hj, rfl, rfl⟩ := hrel
    by_cases hjk : j < k
    · have hjk' : (j : Int) < (k : Int) := by omega
      have h1 : 10 ^ (j + 1) ≤ 10 ^ 19 := pow10_le (by omega)
      have h2 : 10 ^ (j + 1) = 10 ^ j * 10 := Nat.pow_succ ..
      have H2 := Lib.hid h2
      have h3 : 10 ^ j * 10 ≤ 10000000000000000000 := by rw [← h2]; exact h1
      clear h1 h2
      generalize 10 ^ j = x at *
      go_wp2
      go_round
      case rel => exact ⟨j + 1, by omega, by go_num, by rw [H2.out]; go_num⟩
      case measure => simp [intOf]; omega
    · have : j = k := by omega
      subst this
      go_wp2
      go_ret
      exact ⟨rfl, rfl⟩

theorem isZero_any {w : World} {b : Bool} {n : Nat} :
    Calls Tryd.prog 40 #[wd b n] w fun e w' => e = .returned (.bool (decide (n = 0))) ∧ Below w.heap.size w w' := by
  have hhl := hi_lo n
  unfold wd
  by_cases h0 : hi n = 0
  · by_cases h1 : lo n = 0
    · have HV := Lib.hid (show decide (n = 0) = true by simp; omega)
      rw [h0, h1]
      clear hhl h0 h1
      go_enter Tryd.func40, Tryd.ntmps40
      go_wp2
      go_ret
      exact ⟨by rw [HV.out]; rfl, bel0 _ _⟩
    · have HV := Lib.hid (show decide (n = 0) = false by simp; omega)
      rw [h0]
      have h1' : (((lo n : Nat) : Int) == 0) = false := by simp; omega
      clear hhl h0 h1
      generalize lo n = q at *
      go_enter Tryd.func40, Tryd.ntmps40
      go_wp2
      go_ret
      exact ⟨by rw [HV.out]; rfl, bel0 _ _⟩
  · have HV := Lib.hid (show decide (n = 0) = false by simp; omega)
    have h1' : (((hi n : Nat) : Int) == 0) = false := by simp; omega
    clear hhl h0
    generalize lo n = q at *
    generalize hi n = p at *
    go_enter Tryd.func40, Tryd.ntmps40
    go_wp2
    go_ret
    exact ⟨by rw [HV.out]; rfl, bel0 _ _⟩

theorem negate_any {w : World} {b : Bool} {n : Nat} :
    Calls Tryd.prog 32 #[wd b n] w fun e w' => e = .returned (wd (!b) n) ∧ Below w.heap.size w w' := by
  unfold wd
  generalize lo n = q
  generalize hi n = p
  go_enter Tryd.func32, Tryd.ntmps32
  go_wp2
  refine bodyPost_ret (v := .agg #[.bool (!b), .int .u64 (p : Nat), .int .u64 (q : Nat)]) (by simp [results, Tryd.results32, go_sem]) rfl ⟨rfl, bel1 _ _ _⟩

theorem smaller_any {w : World} {a b : Bool} {m n : Nat} :
    Calls Tryd.prog 42 #[wd a m, wd b n] w fun e w' => e = .returned (.bool (decide (m < n))) ∧ Below w.heap.size w w' := by
  have hm := hi_lo m
  have hn := hi_lo n
  have hm2 := lo_lt m
  have hn2 := lo_lt n
  unfold wd
  by_cases h0 : hi m < hi n
  · have HV := Lib.hid (show decide (m < n) = true by simp; omega)
    clear hm hn hm2 hn2
    generalize lo n = q
    generalize hi n = p at *
    generalize lo m = s
    generalize hi m = r at *
    have h0' : (r : Int) < (p : Int) := by omega
    go_enter Tryd.func42, Tryd.ntmps42
    go_wp2
    go_ret
    exact ⟨by rw [HV.out]; rfl, bel1 _ _ _⟩
  · by_cases h1 : hi m = hi n
    · rw [h1]
      by_cases h2 : lo m < lo n
      · have HV := Lib.hid (show decide (m < n) = true by simp; omega)
        clear hm hn hm2 hn2 h0 h1
        generalize lo n = q at *
        generalize hi n = p at *
        generalize lo m = s at *
        have h0' : (s : Int) < (q : Int) := by omega
        go_enter Tryd.func42, Tryd.ntmps42
        go_wp2
        go_ret
        exact ⟨by rw [HV.out]; rfl, bel1 _ _ _⟩
      · have HV := Lib.hid (show decide (m < n) = false by simp; omega)
        clear hm hn hm2 hn2 h0 h1
        generalize lo n = q at *
        generalize hi n = p at *
        generalize lo m = s at *
        have h0' : ¬ (s : Int) < (q : Int) := by omega
        go_enter Tryd.func42, Tryd.ntmps42
        go_wp2
        go_ret
        exact ⟨by rw [HV.out]; rfl, bel1 _ _ _⟩
    · have HV := Lib.hid (show decide (m < n) = false by simp; omega)
      clear hm hn hm2 hn2
      generalize lo n = q at *
      generalize hi n = p at *
      generalize lo m = s at *
      generalize hi m = r at *
      have h0' : ¬ (r : Int) < (p : Int) := by omega
      have h1' : ((r : Int) == (p : Int)) = false := by simp; omega
      clear h0 h1
      go_enter Tryd.func42, Tryd.ntmps42
      go_wp2
      go_ret
      exact ⟨by rw [HV.out]; rfl, bel1 _ _ _⟩
end Go.Proofs.YtmbjmgmnicacpaaDoor
