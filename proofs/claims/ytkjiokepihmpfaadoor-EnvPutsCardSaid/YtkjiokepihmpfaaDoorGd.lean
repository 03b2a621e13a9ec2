/- ref: isWithin, Good, Check by their contracts. No condition. -/
import Derived.Test.YtkjiokepihmpfaaDoorBox8
set_option linter.unusedVariables false
set_option linter.unusedSimpArgs false
namespace Go.Proofs.YtkjiokepihmpfaaDoor
open Go.RowKit

theorem within_any {w : World} (n m : Int) :
    Calls Tryd.prog 78 #[.int .i64 n, .int .i64 m] w fun e w' => e = .returned (.bool (decide (0 ≤ n ∧ n < m))) ∧ w = w' := by
  by_cases h0 : 0 ≤ n
  · by_cases h1 : n < m
    · have hv : decide (0 ≤ n ∧ n < m) = true := decide_eq_true ⟨h0, h1⟩
      rw [hv]
      clear hv
      go_enter Tryd.func78, Tryd.ntmps78
      go_wp2
      go_ret
      exact ⟨rfl, rfl⟩
    · have hv : decide (0 ≤ n ∧ n < m) = false := decide_eq_false (by omega)
      rw [hv]
      clear hv
      go_enter Tryd.func78, Tryd.ntmps78
      go_wp2
      go_ret
      exact ⟨rfl, rfl⟩
  · have hv : decide (0 ≤ n ∧ n < m) = false := decide_eq_false (by omega)
    rw [hv]
    clear hv
    go_enter Tryd.func78, Tryd.ntmps78
    go_wp2
    go_ret
    exact ⟨rfl, rfl⟩

theorem good_any {w : World} (r c : Int) :
    Calls Tryd.prog 54 #[.agg #[.int .i64 r, .int .i64 c]] w fun e w' => e = .returned (.bool (gdB r c)) ∧ Below w.heap.size w w' := by
  have HR := Lib.hid (fun W : World => within_any (w := W) r 65536)
  have HC := Lib.hid (fun W : World => within_any (w := W) c 256)
  by_cases h0 : 0 ≤ r ∧ r < 65536
  · have HR : Hid (∀ W : World, Calls Tryd.prog 78 #[.int .i64 r, .int .i64 65536] W fun e w' => e = .returned (.bool true) ∧ W = w') := Lib.hid (fun W => by have := HR.out W; rwa [decide_eq_true h0] at this)
    by_cases h1 : 0 ≤ c ∧ c < 256
    · have HC : Hid (∀ W : World, Calls Tryd.prog 78 #[.int .i64 c, .int .i64 256] W fun e w' => e = .returned (.bool true) ∧ W = w') := Lib.hid (fun W => by have := HC.out W; rwa [decide_eq_true h1] at this)
      rw [show gdB r c = true from gdB_iff.2 ⟨h0.1, h0.2, h1.1, h1.2⟩]
      clear h0 h1
      go_enter Tryd.func54, Tryd.ntmps54
      go_wp2_with fail
      refine (HR.out _).mono ?_
      rintro e w1 ⟨rfl, rfl⟩
      go_wp2_with fail
      refine (HC.out _).mono ?_
      rintro e w2 ⟨rfl, rfl⟩
      go_wp2
      go_ret
      exact ⟨rfl, bel0 _ _⟩
    · have HC : Hid (∀ W : World, Calls Tryd.prog 78 #[.int .i64 c, .int .i64 256] W fun e w' => e = .returned (.bool false) ∧ W = w') := Lib.hid (fun W => by have := HC.out W; rwa [decide_eq_false h1] at this)
      rw [show gdB r c = false from gdB_no (by omega)]
      clear h0 h1
      go_enter Tryd.func54, Tryd.ntmps54
      go_wp2_with fail
      refine (HR.out _).mono ?_
      rintro e w1 ⟨rfl, rfl⟩
      go_wp2_with fail
      refine (HC.out _).mono ?_
      rintro e w2 ⟨rfl, rfl⟩
      go_wp2
      go_ret
      exact ⟨rfl, bel0 _ _⟩
  · have HR : Hid (∀ W : World, Calls Tryd.prog 78 #[.int .i64 r, .int .i64 65536] W fun e w' => e = .returned (.bool false) ∧ W = w') := Lib.hid (fun W => by have := HR.out W; rwa [decide_eq_false h0] at this)
    rw [show gdB r c = false from gdB_no (by omega)]
    clear h0
    go_enter Tryd.func54, Tryd.ntmps54
    go_wp2_with fail
    refine (HR.out _).mono ?_
    rintro e w1 ⟨rfl, rfl⟩
    go_wp2
    go_ret
    exact ⟨rfl, bel0 _ _⟩

theorem rcheck_any {w : World} (r c : Int) (x y : Bool) :
    Calls Tryd.prog 97 #[.agg #[.int .i64 r, .int .i64 c, .bool x, .bool y]] w fun e w' => e = .returned (.int .i64 (ckI r c)) ∧ Below w.heap.size w w' := by
  have HG := Lib.hid (fun W : World => good_any (w := W) r c)
  rcases ck_cases r c with ⟨h1, h2⟩ | ⟨h1, h2⟩
  · rw [h2]
    rw [h1] at HG
    clear h1 h2
    go_enter Tryd.func97, Tryd.ntmps97
    go_wp2_with fail
    refine (HG.out _).mono ?_
    rintro e w1 ⟨rfl, hb⟩
    have hbel := (bel0 w _).trans (hb.mono (by simp))
    clear hb
    go_wp2
    go_ret
    exact ⟨rfl, hbel⟩
  · rw [h2]
    rw [h1] at HG
    clear h1 h2
    go_enter Tryd.func97, Tryd.ntmps97
    go_wp2_with fail
    refine (HG.out _).mono ?_
    rintro e w1 ⟨rfl, hb⟩
    have hbel := (bel0 w _).trans (hb.mono (by simp))
    clear hb
    go_wp2
    go_ret
    exact ⟨rfl, hbel⟩
end Go.Proofs.YtkjiokepihmpfaaDoor
