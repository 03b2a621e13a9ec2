/- ref: isWithin, Good, Check by their contracts. No condition. -/
/- ref.CheckArea by its contract. No condition. -/
import Derived.Test.YtlaiocdnddnnaaaGreatDoorTv
set_option linter.unusedVariables false
set_option linter.unusedSimpArgs false
namespace Go.Proofs.YtlaiocdnddnnaaaGreatDoor
open Go.RowKit
theorem within_any {w : World} (n m : Int) :
    Calls Tryz.prog 135 #[.int .i64 n, .int .i64 m] w fun e w' => e = .returned (.bool (decide (0 ≤ n ∧ n < m))) ∧ w = w' := by
  by_cases h0 : 0 ≤ n
  · by_cases h1 : n < m
    · have hv : decide (0 ≤ n ∧ n < m) = true := decide_eq_true ⟨h0, h1⟩; rw [hv]; clear hv; go_enter Tryz.func135, Tryz.ntmps135; go_wp2; go_ret; exact ⟨rfl, rfl⟩
    · have hv : decide (0 ≤ n ∧ n < m) = false := decide_eq_false (by omega); rw [hv]; clear hv; go_enter Tryz.func135, Tryz.ntmps135; go_wp2; go_ret; exact ⟨rfl, rfl⟩
  · have hv : decide (0 ≤ n ∧ n < m) = false := decide_eq_false (by omega); rw [hv]; clear hv; go_enter Tryz.func135, Tryz.ntmps135; go_wp2; go_ret; exact ⟨rfl, rfl⟩
theorem good_any {w : World} (r c : Int) :
    Calls Tryz.prog 128 #[.agg #[.int .i64 r, .int .i64 c]] w fun e w' => e = .returned (.bool (gdB r c)) ∧ Below w.heap.size w w' := by
  have HR := Lib.hid (fun W : World => within_any (w := W) r 65536); have HC := Lib.hid (fun W : World => within_any (w := W) c 256)
  by_cases h0 : 0 ≤ r ∧ r < 65536
  · have HR : Hid (∀ W : World, Calls Tryz.prog 135 #[.int .i64 r, .int .i64 65536] W fun e w' => e = .returned (.bool true) ∧ W = w') := Lib.hid (fun W => by have := HR.out W; rwa [decide_eq_true h0] at this)
    by_cases h1 : 0 ≤ c ∧ c < 256
    · have HC : Hid (∀ W : World, Calls Tryz.prog 135 #[.int .i64 c, .int .i64 256] W fun e w' => e = .returned (.bool true) ∧ W = w') := Lib.hid (fun W => by have := HC.out W; rwa [decide_eq_true h1] at this); rw [show gdB r c = true from gdB_iff.2 ⟨h0.1, h0.2, h1.1, h1.2⟩]; clear h0 h1; go_enter Tryz.func128, Tryz.ntmps128
      go_wp2_with fail
      refine (HR.out _).mono ?_; rintro e w1 ⟨rfl, rfl⟩
      go_wp2_with fail
      refine (HC.out _).mono ?_; rintro e w2 ⟨rfl, rfl⟩; go_wp2; go_ret; exact ⟨rfl, bel0 _ _⟩
    · have HC : Hid (∀ W : World, Calls Tryz.prog 135 #[.int .i64 c, .int .i64 256] W fun e w' => e = .returned (.bool false) ∧ W = w') := Lib.hid (fun W => by have := HC.out W; rwa [decide_eq_false h1] at this); rw [show gdB r c = false from gdB_no (by omega)]; clear h0 h1; go_enter Tryz.func128, Tryz.ntmps128
      go_wp2_with fail
      refine (HR.out _).mono ?_; rintro e w1 ⟨rfl, rfl⟩
      go_wp2_with fail
      refine (HC.out _).mono ?_; rintro e w2 ⟨rfl, rfl⟩; go_wp2; go_ret; exact ⟨rfl, bel0 _ _⟩
  · have HR : Hid (∀ W : World, Calls Tryz.prog 135 #[.int .i64 r, .int .i64 65536] W fun e w' => e = .returned (.bool false) ∧ W = w') := Lib.hid (fun W => by have := HR.out W; rwa [decide_eq_false h0] at this); rw [show gdB r c = false from gdB_no (by omega)]; clear h0; go_enter Tryz.func128, Tryz.ntmps128
    go_wp2_with fail
    refine (HR.out _).mono ?_; rintro e w1 ⟨rfl, rfl⟩; go_wp2; go_ret; exact ⟨rfl, bel0 _ _⟩
theorem rcheck_any {w : World} (r c : Int) (x y : Bool) :
    Calls Tryz.prog 111 #[.agg #[.int .i64 r, .int .i64 c, .bool x, .bool y]] w fun e w' => e = .returned (.int .i64 (ckI r c)) ∧ Below w.heap.size w w' := by
  have HG := Lib.hid (fun W : World => good_any (w := W) r c)
  rcases ck_cases r c with ⟨h1, h2⟩ | ⟨h1, h2⟩
  · rw [h2]; rw [h1] at HG; clear h1 h2; go_enter Tryz.func111, Tryz.ntmps111
    go_wp2_with fail
    refine (HG.out _).mono ?_; rintro e w1 ⟨rfl, hb⟩; have hbel := (bel0 w _).trans (hb.mono (by simp)); clear hb; go_wp2; go_ret; exact ⟨rfl, hbel⟩
  · rw [h2]; rw [h1] at HG; clear h1 h2; go_enter Tryz.func111, Tryz.ntmps111
    go_wp2_with fail
    refine (HG.out _).mono ?_; rintro e w1 ⟨rfl, hb⟩; have hbel := (bel0 w _).trans (hb.mono (by simp)); clear hb; go_wp2; go_ret; exact ⟨rfl, hbel⟩
end Go.Proofs.YtlaiocdnddnnaaaGreatDoor
namespace Go.Proofs.YtlaiocdnddnnaaaGreatDoor
open Go.RowKit
set_option maxRecDepth 20000 in
set_option maxHeartbeats 2000000 in
theorem checkArea_any {w : World} (r1 c1 r2 c2 : Int) (x1 y1 x2 y2 : Bool) :
    Calls Tryz.prog 91 #[.agg #[.int .i64 r1, .int .i64 c1, .bool x1, .bool y1, .int .i64 r2, .int .i64 c2, .bool x2, .bool y2]] w fun e w' => e = .returned (.int .i64 (ckA r1 c1 r2 c2)) ∧ Below w.heap.size w w' := by
  have H1 := Lib.hid (fun W : World => rcheck_any (w := W) r1 c1 x1 y1); have H2 := Lib.hid (fun W : World => rcheck_any (w := W) r2 c2 x2 y2); have HB : Hid (SB w 1 ([(w.heap.size, 44, #[.int .i64 r1, .int .i64 c1, .bool x1, .bool y1, .int .i64 r2, .int .i64 c2, .bool x2, .bool y2])] : List (Nat × TypeId × Array Value)) (w.alloc (.cells #[.int .i64 r1, .int .i64 c1, .bool x1, .bool y1, .int .i64 r2, .int .i64 c2, .bool x2, .bool y2] 44))) := Lib.hid (sb1 w 44 #[.int .i64 r1, .int .i64 c1, .bool x1, .bool y1, .int .i64 r2, .int .i64 c2, .bool x2, .bool y2]); unfold ckA
  rcases ck_cases r1 c1 with ⟨-, h⟩ | ⟨-, h⟩
  · rw [if_pos h]; rw [h] at H1; clear h; generalize ckI r2 c2 = k at *; go_enter Tryz.func91, Tryz.ntmps91
    go_wp2_with fail
    refine (H1.out _).mono ?_; rintro e w1 ⟨rfl, hb⟩; have HB2 := Lib.hid (HB.out.call hb); clear HB hb; have kr := HB2.out.box (i := 0) rfl; have cr0 := kr.cell 0; have cr1 := kr.cell 1; have cr2 := kr.cell 2; have cr3 := kr.cell 3; have cr4 := kr.cell 4; have cr5 := kr.cell 5; have cr6 := kr.cell 6; have cr7 := kr.cell 7; clear kr
    go_wp2_with fail
    refine (H2.out _).mono ?_; rintro e w2 ⟨rfl, hb⟩; have hbel := (HB2.out.call hb).bel; clear HB2 hb H1 H2; go_wp2; go_ret; exact ⟨rfl, hbel⟩
  · rw [if_neg (by rw [h]; decide)]; rw [h] at H1; clear h; go_enter Tryz.func91, Tryz.ntmps91
    go_wp2_with fail
    refine (H1.out _).mono ?_; rintro e w1 ⟨rfl, hb⟩; have hbel := (HB.out.call hb).bel; clear HB hb H1 H2; go_wp2; go_ret; exact ⟨rfl, hbel⟩
end Go.Proofs.YtlaiocdnddnnaaaGreatDoor
