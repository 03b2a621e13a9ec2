/- ref: Good, Check, and the reference's own, by their contracts. No condition. -/
import Derived.Test.YtgjijjdpkmdcgaaDoorBox8
namespace Go.Proofs.YtgjijjdpkmdcgaaDoor
open Go.RowKit

theorem good_any {w : World} (r c : Int) :
    Calls Tryd.prog 13 #[.agg #[.int .i64 r, .int .i64 c]] w fun e w' => e = .returned (.bool (gdB r c)) ∧ Below w.heap.size w w' := by
  have HR := Lib.hid (fun W : World => within_any (w := W) r 65536)
  have HC := Lib.hid (fun W : World => within_any (w := W) c 256)
  by_cases h0 : 0 ≤ r ∧ r < 65536
  · have HR : Hid (∀ W : World, Calls Tryd.prog 32 #[.int .i64 r, .int .i64 65536] W fun e w' => e = .returned (.bool true) ∧ W = w') := Lib.hid (fun W => by have := HR.out W; rwa [decide_eq_true h0] at this)
    by_cases h1 : 0 ≤ c ∧ c < 256
    · have HC : Hid (∀ W : World, Calls Tryd.prog 32 #[.int .i64 c, .int .i64 256] W fun e w' => e = .returned (.bool true) ∧ W = w') := Lib.hid (fun W => by have := HC.out W; rwa [decide_eq_true h1] at this)
      rw [show gdB r c = true from gdB_iff.2 ⟨h0.1, h0.2, h1.1, h1.2⟩]
      clear h0 h1
      go_enter Tryd.func13, Tryd.ntmps13
      go_wp2_with fail
      refine (HR.out _).mono ?_
      rintro e w1 ⟨rfl, rfl⟩
      go_wp2_with fail
      refine (HC.out _).mono ?_
      rintro e w2 ⟨rfl, rfl⟩
      go_wp2
      go_ret
      exact ⟨rfl, bel0 _ _⟩
    · have HC : Hid (∀ W : World, Calls Tryd.prog 32 #[.int .i64 c, .int .i64 256] W fun e w' => e = .returned (.bool false) ∧ W = w') := Lib.hid (fun W => by have := HC.out W; rwa [decide_eq_false h1] at this)
      rw [show gdB r c = false from gdB_no (by omega)]
      clear h0 h1
      go_enter Tryd.func13, Tryd.ntmps13
      go_wp2_with fail
      refine (HR.out _).mono ?_
      rintro e w1 ⟨rfl, rfl⟩
      go_wp2_with fail
      refine (HC.out _).mono ?_
      rintro e w2 ⟨rfl, rfl⟩
      go_wp2
      go_ret
      exact ⟨rfl, bel0 _ _⟩
  · have HR : Hid (∀ W : World, Calls Tryd.prog 32 #[.int .i64 r, .int .i64 65536] W fun e w' => e = .returned (.bool false) ∧ W = w') := Lib.hid (fun W => by have := HR.out W; rwa [decide_eq_false h0] at this)
    rw [show gdB r c = false from gdB_no (by omega)]
    clear h0
    go_enter Tryd.func13, Tryd.ntmps13
    go_wp2_with fail
    refine (HR.out _).mono ?_
    rintro e w1 ⟨rfl, rfl⟩
    go_wp2
    go_ret
    exact ⟨rfl, bel0 _ _⟩

theorem bGood_any {w : World} (r c : Int) :
    Calls Tryd.prog 14 #[.agg #[.int .i64 r, .int .i64 c]] w fun e w' => e = .returned (.bool (gdB r c)) ∧ Below w.heap.size w w' := by
  by_cases h0 : 0 ≤ r
  · by_cases h1 : r < 65536
    · by_cases h2 : 0 ≤ c
      · by_cases h3 : c < 256
        · rw [show gdB r c = true from gdB_iff.2 ⟨h0, h1, h2, h3⟩]
          go_enter Tryd.func14, Tryd.ntmps14
          go_wp2
          go_ret
          exact ⟨rfl, bel0 _ _⟩
        · rw [show gdB r c = false from gdB_no (by omega)]
          go_enter Tryd.func14, Tryd.ntmps14
          go_wp2
          go_ret
          exact ⟨rfl, bel0 _ _⟩
      · rw [show gdB r c = false from gdB_no (by omega)]
        go_enter Tryd.func14, Tryd.ntmps14
        go_wp2
        go_ret
        exact ⟨rfl, bel0 _ _⟩
    · rw [show gdB r c = false from gdB_no (by omega)]
      go_enter Tryd.func14, Tryd.ntmps14
      go_wp2
      go_ret
      exact ⟨rfl, bel0 _ _⟩
  · rw [show gdB r c = false from gdB_no (by omega)]
    go_enter Tryd.func14, Tryd.ntmps14
    go_wp2
    go_ret
    exact ⟨rfl, bel0 _ _⟩

theorem check_any {w : World} (r c : Int) (x y : Bool) :
    Calls Tryd.prog 10 #[.agg #[.int .i64 r, .int .i64 c, .bool x, .bool y]] w fun e w' => e = .returned (.int .i64 (ckI r c)) ∧ Below w.heap.size w w' := by
  have HG := Lib.hid (fun W : World => good_any (w := W) r c)
  rcases ck_cases r c with ⟨h1, h2⟩ | ⟨h1, h2⟩
  · rw [h2]
    rw [h1] at HG
    clear h1 h2
    go_enter Tryd.func10, Tryd.ntmps10
    go_wp2_with fail
    refine (HG.out _).mono ?_
    rintro e w1 ⟨rfl, hb⟩
    have hbel := (bel0 w _).trans (hb.mono (by simp))
    clear hb
    go_wp2
    go_ret
    exact ⟨rfl, hbel⟩
  · rw [h2]
    rw [h1] at HG
    clear h1 h2
    go_enter Tryd.func10, Tryd.ntmps10
    go_wp2_with fail
    refine (HG.out _).mono ?_
    rintro e w1 ⟨rfl, hb⟩
    have hbel := (bel0 w _).trans (hb.mono (by simp))
    clear hb
    go_wp2
    go_ret
    exact ⟨rfl, hbel⟩

theorem bCheck_any {w : World} (r c : Int) (x y : Bool) :
    Calls Tryd.prog 11 #[.agg #[.int .i64 r, .int .i64 c, .bool x, .bool y]] w fun e w' => e = .returned (.int .i64 (ckI r c)) ∧ Below w.heap.size w w' := by
  have HG := Lib.hid (fun W : World => bGood_any (w := W) r c)
  rcases ck_cases r c with ⟨h1, h2⟩ | ⟨h1, h2⟩
  · rw [h2]
    rw [h1] at HG
    clear h1 h2
    go_enter Tryd.func11, Tryd.ntmps11
    go_wp2_with fail
    refine (HG.out _).mono ?_
    rintro e w1 ⟨rfl, hb⟩
    have hbel := (bel0 w _).trans (hb.mono (by simp))
    clear hb
    go_wp2
    go_ret
    exact ⟨rfl, hbel⟩
  · rw [h2]
    rw [h1] at HG
    clear h1 h2
    go_enter Tryd.func11, Tryd.ntmps11
    go_wp2_with fail
    refine (HG.out _).mono ?_
    rintro e w1 ⟨rfl, hb⟩
    have hbel := (bel0 w _).trans (hb.mono (by simp))
    clear hb
    go_wp2
    go_ret
    exact ⟨rfl, hbel⟩

theorem ofCell_any {w : World} (r c : Int) :
    Calls Tryd.prog 15 #[.agg #[.int .i64 r, .int .i64 c]] w fun e w' => e = .returned (.agg #[.int .i64 r, .int .i64 c]) ∧ Below w.heap.size w w' := by
  go_enter Tryd.func15, Tryd.ntmps15
  go_wp2
  exact bodyPost_ret (v := .agg #[.int .i64 r, .int .i64 c]) (by simp [results, Tryd.results15, go_sem]) rfl ⟨rfl, bel1 _ _ _⟩

theorem of_any {w : World} (r c : Int) (x y : Bool) :
    Calls Tryd.prog 12 #[.agg #[.int .i64 r, .int .i64 c, .bool x, .bool y]] w fun e w' => e = .returned (.agg #[.int .i64 r, .int .i64 c, .bool x, .bool y]) ∧ Below w.heap.size w w' := by
  go_enter Tryd.func12, Tryd.ntmps12
  go_wp2
  exact bodyPost_ret (v := .agg #[.int .i64 r, .int .i64 c, .bool x, .bool y]) (by simp [results, Tryd.results12, go_sem]) rfl ⟨rfl, bel1 _ _ _⟩
end Go.Proofs.YtgjijjdpkmdcgaaDoor
