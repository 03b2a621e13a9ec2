/- cashbooklaw5.RkEdges by its contract: it returns true. Condition: numbers within their kinds. -/
import Derived.Test.YtafdbdkggogigaaRkNum
namespace Go.Proofs.Ytafdbdkggogigaa
open Go.RowKit

theorem rk_bad {m s : Int} (h : rkE m s = 1) : ckE m s = 1 := by
  unfold rkE at h
  rcases ck01 m s with h1 | h1
  · rw [h1] at h
    cases h2 : sh m <;> rw [h2] at h <;> simp at h
  · exact h1
theorem rk_out {m s : Int} (h : rkE m s = 8) : ckE m s = 0 ∧ ¬ (-134217728 ≤ m ∧ m ≤ 134217727) := by
  unfold rkE at h
  rcases ck01 m s with h1 | h1
  · rw [h1] at h
    refine ⟨h1, fun h2 => ?_⟩
    rw [show sh m = true by simp [sh, h2]] at h
    simp at h
  · rw [h1] at h
    simp at h

set_option maxRecDepth 100000 in
set_option maxHeartbeats 600000 in
theorem edges_bad_lo {w : World} {n m s s' p : Int} {low : Bool} (h : rkE m s = 1) (r1 : m < -134217728) (hw : wrap64 n = n) (hm : wrap64 (134217728 + n) = p) (hl : low = false → p = m) (hn : low = true → wrap64 (0 - p) = m) (hs : wrap64 (s'.tmod 10) = s) :
    Calls Try.prog 5 #[.int .i16 n, .bool low, .int .u8 s'] w fun e w' => e = .returned (.bool true) ∧ Below w.heap.size w w' := by
  have HK := Lib.hid (fun W : World => known5_any W)
  have b0 := rk_no (m := m) (s := s) (by rw [h]; decide)
  have hc : ckE m s = 1 := rk_bad h
  have hd : decide (rkE m s = 0) = false := decide_eq_false (by rw [h]; decide)
  have HC : Hid (∀ W : World, Calls Try.prog 15 #[.agg #[.int .i64 m, .int .i64 s]] W fun e w' => e = .returned (.int .i64 1) ∧ Below W.heap.size W w') := Lib.hid (fun W => by
    have := check_any (w := W) (m := m) (s := s)
    rw [hc] at this
    exact this)
  have HF : Hid (∀ W : World, Calls Try.prog 11 #[.agg #[.int .i64 m, .int .i64 s]] W fun e w' => e = .returned (.bool false) ∧ Below W.heap.size W w') := Lib.hid (fun W => by
    have := fits_any (w := W) (m := m) (s := s)
    rw [hd] at this
    exact this)
  have HP : Hid (∀ W : World, Calls Try.prog 8 #[.agg #[.int .i64 m, .int .i64 s]] W fun e w' => e = .returned (.tuple #[.int .i64 0, .int .i64 1]) ∧ Below W.heap.size W w') := Lib.hid (fun W => by
    have := pack_any (w := W) (m := m) (s := s)
    rw [h] at this
    rw [b0] at this
    exact this)
  clear b0 hd h hc
  have HB : Hid (SB w 0 [] w) := Lib.hid ⟨Below.refl _ _, Nat.le_refl _, fun x hx => by cases hx⟩
  cases low
  · obtain rfl := (hl rfl).symm
    clear hl hn
    go_enter Try.func5, Try.ntmps5
    go_wp2_with fail
    refine (HK.out _).mono ?_
    rintro e w1 ⟨rfl, hb⟩
    have HB1 := Lib.hid (HB.out.call hb)
    clear hb HB
    have HB := HB1
    clear HB1
    go_wp2_with fail
    refine (HC.out _).mono ?_
    rintro e w2 ⟨rfl, hb⟩
    have HB2 := Lib.hid ((HB.out.alloc 23 #[.int .i64 m, .int .i64 s]).call hb)
    clear hb HB
    have HB := HB2
    clear HB2
    have q0 := HB.out.bk _ (.head _)
    have c00 := q0.cell 0
    have c01 := q0.cell 1
    clear q0
    go_wp2_with fail
    refine (HP.out _).mono ?_
    rintro e w3 ⟨rfl, hb⟩
    clear c00 c01
    have HB3 := Lib.hid (HB.out.call hb)
    clear hb HB
    have HB := HB3
    clear HB3
    have q0 := HB.out.bk _ (.head _)
    have c00 := q0.cell 0
    have c01 := q0.cell 1
    clear q0
    go_wp2_with fail
    refine (HF.out _).mono ?_
    rintro e w4 ⟨rfl, hb⟩
    clear c00 c01
    have HB4 := Lib.hid (HB.out.call hb)
    clear hb HB
    have HB := HB4
    clear HB4
    have hbel := HB.out.bel
    clear HC HF HP HK HB
    go_wp2
    go_ret
    exact ⟨rfl, hbel⟩
  · have hq := hn rfl
    have hq2 : wrap64 (-p) = m := by rw [← hq, Int.zero_sub]
    clear hl hn
    go_enter Try.func5, Try.ntmps5
    go_wp2_with fail
    refine (HK.out _).mono ?_
    rintro e w1 ⟨rfl, hb⟩
    have HB1 := Lib.hid (HB.out.call hb)
    clear hb HB
    have HB := HB1
    clear HB1
    go_wp2_with fail
    refine (HC.out _).mono ?_
    rintro e w2 ⟨rfl, hb⟩
    have HB2 := Lib.hid ((HB.out.alloc 23 #[.int .i64 m, .int .i64 s]).call hb)
    clear hb HB
    have HB := HB2
    clear HB2
    have q0 := HB.out.bk _ (.head _)
    have c00 := q0.cell 0
    have c01 := q0.cell 1
    clear q0
    go_wp2_with fail
    refine (HP.out _).mono ?_
    rintro e w3 ⟨rfl, hb⟩
    clear c00 c01
    have HB3 := Lib.hid (HB.out.call hb)
    clear hb HB
    have HB := HB3
    clear HB3
    have q0 := HB.out.bk _ (.head _)
    have c00 := q0.cell 0
    have c01 := q0.cell 1
    clear q0
    go_wp2_with fail
    refine (HF.out _).mono ?_
    rintro e w4 ⟨rfl, hb⟩
    clear c00 c01
    have HB4 := Lib.hid (HB.out.call hb)
    clear hb HB
    have HB := HB4
    clear HB4
    have hbel := HB.out.bel
    clear HC HF HP HK HB
    go_wp2
    go_ret
    exact ⟨rfl, hbel⟩

set_option maxRecDepth 100000 in
set_option maxHeartbeats 600000 in
theorem edges_bad_mid {w : World} {n m s s' p : Int} {low : Bool} (h : rkE m s = 1) (r1 : -134217728 ≤ m) (r2 : m < 134217728) (hw : wrap64 n = n) (hm : wrap64 (134217728 + n) = p) (hl : low = false → p = m) (hn : low = true → wrap64 (0 - p) = m) (hs : wrap64 (s'.tmod 10) = s) :
    Calls Try.prog 5 #[.int .i16 n, .bool low, .int .u8 s'] w fun e w' => e = .returned (.bool true) ∧ Below w.heap.size w w' := by
  have HK := Lib.hid (fun W : World => known5_any W)
  have b0 := rk_no (m := m) (s := s) (by rw [h]; decide)
  have hc : ckE m s = 1 := rk_bad h
  have hd : decide (rkE m s = 0) = false := decide_eq_false (by rw [h]; decide)
  have HC : Hid (∀ W : World, Calls Try.prog 15 #[.agg #[.int .i64 m, .int .i64 s]] W fun e w' => e = .returned (.int .i64 1) ∧ Below W.heap.size W w') := Lib.hid (fun W => by
    have := check_any (w := W) (m := m) (s := s)
    rw [hc] at this
    exact this)
  have HF : Hid (∀ W : World, Calls Try.prog 11 #[.agg #[.int .i64 m, .int .i64 s]] W fun e w' => e = .returned (.bool false) ∧ Below W.heap.size W w') := Lib.hid (fun W => by
    have := fits_any (w := W) (m := m) (s := s)
    rw [hd] at this
    exact this)
  have HP : Hid (∀ W : World, Calls Try.prog 8 #[.agg #[.int .i64 m, .int .i64 s]] W fun e w' => e = .returned (.tuple #[.int .i64 0, .int .i64 1]) ∧ Below W.heap.size W w') := Lib.hid (fun W => by
    have := pack_any (w := W) (m := m) (s := s)
    rw [h] at this
    rw [b0] at this
    exact this)
  clear b0 hd h hc
  have HB : Hid (SB w 0 [] w) := Lib.hid ⟨Below.refl _ _, Nat.le_refl _, fun x hx => by cases hx⟩
  cases low
  · obtain rfl := (hl rfl).symm
    clear hl hn
    go_enter Try.func5, Try.ntmps5
    go_wp2_with fail
    refine (HK.out _).mono ?_
    rintro e w1 ⟨rfl, hb⟩
    have HB1 := Lib.hid (HB.out.call hb)
    clear hb HB
    have HB := HB1
    clear HB1
    go_wp2_with fail
    refine (HC.out _).mono ?_
    rintro e w2 ⟨rfl, hb⟩
    have HB2 := Lib.hid ((HB.out.alloc 23 #[.int .i64 m, .int .i64 s]).call hb)
    clear hb HB
    have HB := HB2
    clear HB2
    have q0 := HB.out.bk _ (.head _)
    have c00 := q0.cell 0
    have c01 := q0.cell 1
    clear q0
    go_wp2_with fail
    refine (HP.out _).mono ?_
    rintro e w3 ⟨rfl, hb⟩
    clear c00 c01
    have HB3 := Lib.hid (HB.out.call hb)
    clear hb HB
    have HB := HB3
    clear HB3
    have q0 := HB.out.bk _ (.head _)
    have c00 := q0.cell 0
    have c01 := q0.cell 1
    clear q0
    go_wp2_with fail
    refine (HF.out _).mono ?_
    rintro e w4 ⟨rfl, hb⟩
    clear c00 c01
    have HB4 := Lib.hid (HB.out.call hb)
    clear hb HB
    have HB := HB4
    clear HB4
    have hbel := HB.out.bel
    clear HC HF HP HK HB
    go_wp2
    go_ret
    exact ⟨rfl, hbel⟩
  · have hq := hn rfl
    have hq2 : wrap64 (-p) = m := by rw [← hq, Int.zero_sub]
    clear hl hn
    go_enter Try.func5, Try.ntmps5
    go_wp2_with fail
    refine (HK.out _).mono ?_
    rintro e w1 ⟨rfl, hb⟩
    have HB1 := Lib.hid (HB.out.call hb)
    clear hb HB
    have HB := HB1
    clear HB1
    go_wp2_with fail
    refine (HC.out _).mono ?_
    rintro e w2 ⟨rfl, hb⟩
    have HB2 := Lib.hid ((HB.out.alloc 23 #[.int .i64 m, .int .i64 s]).call hb)
    clear hb HB
    have HB := HB2
    clear HB2
    have q0 := HB.out.bk _ (.head _)
    have c00 := q0.cell 0
    have c01 := q0.cell 1
    clear q0
    go_wp2_with fail
    refine (HP.out _).mono ?_
    rintro e w3 ⟨rfl, hb⟩
    clear c00 c01
    have HB3 := Lib.hid (HB.out.call hb)
    clear hb HB
    have HB := HB3
    clear HB3
    have q0 := HB.out.bk _ (.head _)
    have c00 := q0.cell 0
    have c01 := q0.cell 1
    clear q0
    go_wp2_with fail
    refine (HF.out _).mono ?_
    rintro e w4 ⟨rfl, hb⟩
    clear c00 c01
    have HB4 := Lib.hid (HB.out.call hb)
    clear hb HB
    have HB := HB4
    clear HB4
    have hbel := HB.out.bel
    clear HC HF HP HK HB
    go_wp2
    go_ret
    exact ⟨rfl, hbel⟩

set_option maxRecDepth 100000 in
set_option maxHeartbeats 600000 in
theorem edges_bad_hi {w : World} {n m s s' p : Int} {low : Bool} (h : rkE m s = 1) (r1 : -134217728 ≤ m) (r2 : 134217728 ≤ m) (hw : wrap64 n = n) (hm : wrap64 (134217728 + n) = p) (hl : low = false → p = m) (hn : low = true → wrap64 (0 - p) = m) (hs : wrap64 (s'.tmod 10) = s) :
    Calls Try.prog 5 #[.int .i16 n, .bool low, .int .u8 s'] w fun e w' => e = .returned (.bool true) ∧ Below w.heap.size w w' := by
  have HK := Lib.hid (fun W : World => known5_any W)
  have b0 := rk_no (m := m) (s := s) (by rw [h]; decide)
  have hc : ckE m s = 1 := rk_bad h
  have hd : decide (rkE m s = 0) = false := decide_eq_false (by rw [h]; decide)
  have HC : Hid (∀ W : World, Calls Try.prog 15 #[.agg #[.int .i64 m, .int .i64 s]] W fun e w' => e = .returned (.int .i64 1) ∧ Below W.heap.size W w') := Lib.hid (fun W => by
    have := check_any (w := W) (m := m) (s := s)
    rw [hc] at this
    exact this)
  have HF : Hid (∀ W : World, Calls Try.prog 11 #[.agg #[.int .i64 m, .int .i64 s]] W fun e w' => e = .returned (.bool false) ∧ Below W.heap.size W w') := Lib.hid (fun W => by
    have := fits_any (w := W) (m := m) (s := s)
    rw [hd] at this
    exact this)
  have HP : Hid (∀ W : World, Calls Try.prog 8 #[.agg #[.int .i64 m, .int .i64 s]] W fun e w' => e = .returned (.tuple #[.int .i64 0, .int .i64 1]) ∧ Below W.heap.size W w') := Lib.hid (fun W => by
    have := pack_any (w := W) (m := m) (s := s)
    rw [h] at this
    rw [b0] at this
    exact this)
  clear b0 hd h hc
  have HB : Hid (SB w 0 [] w) := Lib.hid ⟨Below.refl _ _, Nat.le_refl _, fun x hx => by cases hx⟩
  cases low
  · obtain rfl := (hl rfl).symm
    clear hl hn
    go_enter Try.func5, Try.ntmps5
    go_wp2_with fail
    refine (HK.out _).mono ?_
    rintro e w1 ⟨rfl, hb⟩
    have HB1 := Lib.hid (HB.out.call hb)
    clear hb HB
    have HB := HB1
    clear HB1
    go_wp2_with fail
    refine (HC.out _).mono ?_
    rintro e w2 ⟨rfl, hb⟩
    have HB2 := Lib.hid ((HB.out.alloc 23 #[.int .i64 m, .int .i64 s]).call hb)
    clear hb HB
    have HB := HB2
    clear HB2
    have q0 := HB.out.bk _ (.head _)
    have c00 := q0.cell 0
    have c01 := q0.cell 1
    clear q0
    go_wp2_with fail
    refine (HP.out _).mono ?_
    rintro e w3 ⟨rfl, hb⟩
    clear c00 c01
    have HB3 := Lib.hid (HB.out.call hb)
    clear hb HB
    have HB := HB3
    clear HB3
    have q0 := HB.out.bk _ (.head _)
    have c00 := q0.cell 0
    have c01 := q0.cell 1
    clear q0
    go_wp2_with fail
    refine (HF.out _).mono ?_
    rintro e w4 ⟨rfl, hb⟩
    clear c00 c01
    have HB4 := Lib.hid (HB.out.call hb)
    clear hb HB
    have HB := HB4
    clear HB4
    have hbel := HB.out.bel
    clear HC HF HP HK HB
    go_wp2
    go_ret
    exact ⟨rfl, hbel⟩
  · have hq := hn rfl
    have hq2 : wrap64 (-p) = m := by rw [← hq, Int.zero_sub]
    clear hl hn
    go_enter Try.func5, Try.ntmps5
    go_wp2_with fail
    refine (HK.out _).mono ?_
    rintro e w1 ⟨rfl, hb⟩
    have HB1 := Lib.hid (HB.out.call hb)
    clear hb HB
    have HB := HB1
    clear HB1
    go_wp2_with fail
    refine (HC.out _).mono ?_
    rintro e w2 ⟨rfl, hb⟩
    have HB2 := Lib.hid ((HB.out.alloc 23 #[.int .i64 m, .int .i64 s]).call hb)
    clear hb HB
    have HB := HB2
    clear HB2
    have q0 := HB.out.bk _ (.head _)
    have c00 := q0.cell 0
    have c01 := q0.cell 1
    clear q0
    go_wp2_with fail
    refine (HP.out _).mono ?_
    rintro e w3 ⟨rfl, hb⟩
    clear c00 c01
    have HB3 := Lib.hid (HB.out.call hb)
    clear hb HB
    have HB := HB3
    clear HB3
    have q0 := HB.out.bk _ (.head _)
    have c00 := q0.cell 0
    have c01 := q0.cell 1
    clear q0
    go_wp2_with fail
    refine (HF.out _).mono ?_
    rintro e w4 ⟨rfl, hb⟩
    clear c00 c01
    have HB4 := Lib.hid (HB.out.call hb)
    clear hb HB
    have HB := HB4
    clear HB4
    have hbel := HB.out.bel
    clear HC HF HP HK HB
    go_wp2
    go_ret
    exact ⟨rfl, hbel⟩

set_option maxRecDepth 100000 in
set_option maxHeartbeats 600000 in
theorem edges_in_mid {w : World} {n m s s' p : Int} {low : Bool} (h : rkE m s = 0) (r1 : -134217728 ≤ m) (r2 : m < 134217728) (hw : wrap64 n = n) (hm : wrap64 (134217728 + n) = p) (hl : low = false → p = m) (hn : low = true → wrap64 (0 - p) = m) (hs : wrap64 (s'.tmod 10) = s) :
    Calls Try.prog 5 #[.int .i16 n, .bool low, .int .u8 s'] w fun e w' => e = .returned (.bool true) ∧ Below w.heap.size w w' := by
  have HK := Lib.hid (fun W : World => known5_any W)
  obtain ⟨b1, b2, b3, b4⟩ := rk_back h
  have hc := (rk_ok h).1
  have hd : decide (rkE m s = 0) = true := decide_eq_true h
  have HC : Hid (∀ W : World, Calls Try.prog 15 #[.agg #[.int .i64 m, .int .i64 s]] W fun e w' => e = .returned (.int .i64 0) ∧ Below W.heap.size W w') := Lib.hid (fun W => by
    have := check_any (w := W) (m := m) (s := s)
    rw [hc] at this
    exact this)
  have HF : Hid (∀ W : World, Calls Try.prog 11 #[.agg #[.int .i64 m, .int .i64 s]] W fun e w' => e = .returned (.bool true) ∧ Below W.heap.size W w') := Lib.hid (fun W => by
    have := fits_any (w := W) (m := m) (s := s)
    rw [hd] at this
    exact this)
  have HP : Hid (∀ W : World, Calls Try.prog 8 #[.agg #[.int .i64 m, .int .i64 s]] W fun e w' => e = .returned (.tuple #[.int .i64 (rkV m s), .int .i64 0]) ∧ Below W.heap.size W w') := Lib.hid (fun W => by
    have := pack_any (w := W) (m := m) (s := s)
    rw [h] at this
    exact this)
  have HU : Hid (∀ W : World, Calls Try.prog 13 #[.int .i64 (rkV m s)] W fun e w' => e = .returned (.tuple #[.agg #[.int .i64 m, .int .i64 s], .int .i64 0]) ∧ Below W.heap.size W w') := Lib.hid (fun W => by
    have := unpack_any (w := W) (n := rkV m s)
    rw [b1] at this
    rw [b2] at this
    exact this)
  clear b1 b2 hd h hc b3 b4
  generalize rkV m s = V at *
  have HB : Hid (SB w 0 [] w) := Lib.hid ⟨Below.refl _ _, Nat.le_refl _, fun x hx => by cases hx⟩
  cases low
  · obtain rfl := (hl rfl).symm
    clear hl hn
    go_enter Try.func5, Try.ntmps5
    go_wp2_with fail
    refine (HK.out _).mono ?_
    rintro e w1 ⟨rfl, hb⟩
    have HB1 := Lib.hid (HB.out.call hb)
    clear hb HB
    have HB := HB1
    clear HB1
    go_wp2_with fail
    refine (HC.out _).mono ?_
    rintro e w2 ⟨rfl, hb⟩
    have HB2 := Lib.hid ((HB.out.alloc 23 #[.int .i64 m, .int .i64 s]).call hb)
    clear hb HB
    have HB := HB2
    clear HB2
    have q0 := HB.out.bk _ (.head _)
    have c00 := q0.cell 0
    have c01 := q0.cell 1
    clear q0
    go_wp2_with fail
    refine (HP.out _).mono ?_
    rintro e w3 ⟨rfl, hb⟩
    clear c00 c01
    have HB3 := Lib.hid (HB.out.call hb)
    clear hb HB
    have HB := HB3
    clear HB3
    have q0 := HB.out.bk _ (.head _)
    have c00 := q0.cell 0
    have c01 := q0.cell 1
    clear q0
    go_wp2_with fail
    refine (HF.out _).mono ?_
    rintro e w4 ⟨rfl, hb⟩
    clear c00 c01
    have HB4 := Lib.hid (HB.out.call hb)
    clear hb HB
    have HB := HB4
    clear HB4
    go_wp2_with fail
    refine (HU.out _).mono ?_
    rintro e w5 ⟨rfl, hb⟩
    have HB5 := Lib.hid ((HB.out.call hb).alloc 23 #[.int .i64 m, .int .i64 s])
    clear hb HB
    have HB := HB5
    clear HB5
    have q0 := HB.out.bk _ (.head _)
    have c00 := q0.cell 0
    have c01 := q0.cell 1
    clear q0
    have q1 := HB.out.bk _ (.tail _ (.head _))
    have c10 := q1.cell 0
    have c11 := q1.cell 1
    clear q1
    have hbel := HB.out.bel
    clear HC HF HP HK HB HU
    go_wp2
    go_ret
    exact ⟨rfl, hbel⟩
  · have hq := hn rfl
    have hq2 : wrap64 (-p) = m := by rw [← hq, Int.zero_sub]
    clear hl hn
    go_enter Try.func5, Try.ntmps5
    go_wp2_with fail
    refine (HK.out _).mono ?_
    rintro e w1 ⟨rfl, hb⟩
    have HB1 := Lib.hid (HB.out.call hb)
    clear hb HB
    have HB := HB1
    clear HB1
    go_wp2_with fail
    refine (HC.out _).mono ?_
    rintro e w2 ⟨rfl, hb⟩
    have HB2 := Lib.hid ((HB.out.alloc 23 #[.int .i64 m, .int .i64 s]).call hb)
    clear hb HB
    have HB := HB2
    clear HB2
    have q0 := HB.out.bk _ (.head _)
    have c00 := q0.cell 0
    have c01 := q0.cell 1
    clear q0
    go_wp2_with fail
    refine (HP.out _).mono ?_
    rintro e w3 ⟨rfl, hb⟩
    clear c00 c01
    have HB3 := Lib.hid (HB.out.call hb)
    clear hb HB
    have HB := HB3
    clear HB3
    have q0 := HB.out.bk _ (.head _)
    have c00 := q0.cell 0
    have c01 := q0.cell 1
    clear q0
    go_wp2_with fail
    refine (HF.out _).mono ?_
    rintro e w4 ⟨rfl, hb⟩
    clear c00 c01
    have HB4 := Lib.hid (HB.out.call hb)
    clear hb HB
    have HB := HB4
    clear HB4
    go_wp2_with fail
    refine (HU.out _).mono ?_
    rintro e w5 ⟨rfl, hb⟩
    have HB5 := Lib.hid ((HB.out.call hb).alloc 23 #[.int .i64 m, .int .i64 s])
    clear hb HB
    have HB := HB5
    clear HB5
    have q0 := HB.out.bk _ (.head _)
    have c00 := q0.cell 0
    have c01 := q0.cell 1
    clear q0
    have q1 := HB.out.bk _ (.tail _ (.head _))
    have c10 := q1.cell 0
    have c11 := q1.cell 1
    clear q1
    have hbel := HB.out.bel
    clear HC HF HP HK HB HU
    go_wp2
    go_ret
    exact ⟨rfl, hbel⟩

set_option maxRecDepth 100000 in
set_option maxHeartbeats 600000 in
theorem edges_out_lo {w : World} {n m s s' p : Int} {low : Bool} (h : rkE m s = 8) (r1 : m < -134217728) (hw : wrap64 n = n) (hm : wrap64 (134217728 + n) = p) (hl : low = false → p = m) (hn : low = true → wrap64 (0 - p) = m) (hs : wrap64 (s'.tmod 10) = s) :
    Calls Try.prog 5 #[.int .i16 n, .bool low, .int .u8 s'] w fun e w' => e = .returned (.bool true) ∧ Below w.heap.size w w' := by
  have HK := Lib.hid (fun W : World => known5_any W)
  have b0 := rk_no (m := m) (s := s) (by rw [h]; decide)
  have hc := (rk_out h).1
  have hd : decide (rkE m s = 0) = false := decide_eq_false (by rw [h]; decide)
  have HC : Hid (∀ W : World, Calls Try.prog 15 #[.agg #[.int .i64 m, .int .i64 s]] W fun e w' => e = .returned (.int .i64 0) ∧ Below W.heap.size W w') := Lib.hid (fun W => by
    have := check_any (w := W) (m := m) (s := s)
    rw [hc] at this
    exact this)
  have HF : Hid (∀ W : World, Calls Try.prog 11 #[.agg #[.int .i64 m, .int .i64 s]] W fun e w' => e = .returned (.bool false) ∧ Below W.heap.size W w') := Lib.hid (fun W => by
    have := fits_any (w := W) (m := m) (s := s)
    rw [hd] at this
    exact this)
  have HP : Hid (∀ W : World, Calls Try.prog 8 #[.agg #[.int .i64 m, .int .i64 s]] W fun e w' => e = .returned (.tuple #[.int .i64 0, .int .i64 8]) ∧ Below W.heap.size W w') := Lib.hid (fun W => by
    have := pack_any (w := W) (m := m) (s := s)
    rw [h] at this
    rw [b0] at this
    exact this)
  have HU : Hid (∀ W : World, Calls Try.prog 13 #[.int .i64 0] W fun e w' => e = .returned (.tuple #[.agg #[.int .i64 0, .int .i64 0], .int .i64 0]) ∧ Below W.heap.size W w') := Lib.hid (fun W => by
    have := unpack_any (w := W) (n := 0)
    rw [show uV 0 = .agg #[.int .i64 0, .int .i64 0] by unfold uV; rw [if_pos (by decide +kernel)]; rfl] at this
    rw [show uE 0 = 0 by decide +kernel] at this
    exact this)
  clear b0 hd h hc
  have HB : Hid (SB w 0 [] w) := Lib.hid ⟨Below.refl _ _, Nat.le_refl _, fun x hx => by cases hx⟩
  cases low
  · obtain rfl := (hl rfl).symm
    clear hl hn
    go_enter Try.func5, Try.ntmps5
    go_wp2_with fail
    refine (HK.out _).mono ?_
    rintro e w1 ⟨rfl, hb⟩
    have HB1 := Lib.hid (HB.out.call hb)
    clear hb HB
    have HB := HB1
    clear HB1
    go_wp2_with fail
    refine (HC.out _).mono ?_
    rintro e w2 ⟨rfl, hb⟩
    have HB2 := Lib.hid ((HB.out.alloc 23 #[.int .i64 m, .int .i64 s]).call hb)
    clear hb HB
    have HB := HB2
    clear HB2
    have q0 := HB.out.bk _ (.head _)
    have c00 := q0.cell 0
    have c01 := q0.cell 1
    clear q0
    go_wp2_with fail
    refine (HP.out _).mono ?_
    rintro e w3 ⟨rfl, hb⟩
    clear c00 c01
    have HB3 := Lib.hid (HB.out.call hb)
    clear hb HB
    have HB := HB3
    clear HB3
    have q0 := HB.out.bk _ (.head _)
    have c00 := q0.cell 0
    have c01 := q0.cell 1
    clear q0
    go_wp2_with fail
    refine (HF.out _).mono ?_
    rintro e w4 ⟨rfl, hb⟩
    clear c00 c01
    have HB4 := Lib.hid (HB.out.call hb)
    clear hb HB
    have HB := HB4
    clear HB4
    go_wp2_with fail
    refine (HU.out _).mono ?_
    rintro e w5 ⟨rfl, hb⟩
    have HB5 := Lib.hid ((HB.out.call hb).alloc 23 #[.int .i64 0, .int .i64 0])
    clear hb HB
    have HB := HB5
    clear HB5
    have hbel := HB.out.bel
    clear HC HF HP HK HB HU
    go_wp2
    go_ret
    exact ⟨rfl, hbel⟩
  · have hq := hn rfl
    have hq2 : wrap64 (-p) = m := by rw [← hq, Int.zero_sub]
    clear hl hn
    go_enter Try.func5, Try.ntmps5
    go_wp2_with fail
    refine (HK.out _).mono ?_
    rintro e w1 ⟨rfl, hb⟩
    have HB1 := Lib.hid (HB.out.call hb)
    clear hb HB
    have HB := HB1
    clear HB1
    go_wp2_with fail
    refine (HC.out _).mono ?_
    rintro e w2 ⟨rfl, hb⟩
    have HB2 := Lib.hid ((HB.out.alloc 23 #[.int .i64 m, .int .i64 s]).call hb)
    clear hb HB
    have HB := HB2
    clear HB2
    have q0 := HB.out.bk _ (.head _)
    have c00 := q0.cell 0
    have c01 := q0.cell 1
    clear q0
    go_wp2_with fail
    refine (HP.out _).mono ?_
    rintro e w3 ⟨rfl, hb⟩
    clear c00 c01
    have HB3 := Lib.hid (HB.out.call hb)
    clear hb HB
    have HB := HB3
    clear HB3
    have q0 := HB.out.bk _ (.head _)
    have c00 := q0.cell 0
    have c01 := q0.cell 1
    clear q0
    go_wp2_with fail
    refine (HF.out _).mono ?_
    rintro e w4 ⟨rfl, hb⟩
    clear c00 c01
    have HB4 := Lib.hid (HB.out.call hb)
    clear hb HB
    have HB := HB4
    clear HB4
    go_wp2_with fail
    refine (HU.out _).mono ?_
    rintro e w5 ⟨rfl, hb⟩
    have HB5 := Lib.hid ((HB.out.call hb).alloc 23 #[.int .i64 0, .int .i64 0])
    clear hb HB
    have HB := HB5
    clear HB5
    have hbel := HB.out.bel
    clear HC HF HP HK HB HU
    go_wp2
    go_ret
    exact ⟨rfl, hbel⟩

set_option maxRecDepth 100000 in
set_option maxHeartbeats 600000 in
theorem edges_out_hi {w : World} {n m s s' p : Int} {low : Bool} (h : rkE m s = 8) (r1 : -134217728 ≤ m) (r2 : 134217728 ≤ m) (hw : wrap64 n = n) (hm : wrap64 (134217728 + n) = p) (hl : low = false → p = m) (hn : low = true → wrap64 (0 - p) = m) (hs : wrap64 (s'.tmod 10) = s) :
    Calls Try.prog 5 #[.int .i16 n, .bool low, .int .u8 s'] w fun e w' => e = .returned (.bool true) ∧ Below w.heap.size w w' := by
  have HK := Lib.hid (fun W : World => known5_any W)
  have b0 := rk_no (m := m) (s := s) (by rw [h]; decide)
  have hc := (rk_out h).1
  have hd : decide (rkE m s = 0) = false := decide_eq_false (by rw [h]; decide)
  have HC : Hid (∀ W : World, Calls Try.prog 15 #[.agg #[.int .i64 m, .int .i64 s]] W fun e w' => e = .returned (.int .i64 0) ∧ Below W.heap.size W w') := Lib.hid (fun W => by
    have := check_any (w := W) (m := m) (s := s)
    rw [hc] at this
    exact this)
  have HF : Hid (∀ W : World, Calls Try.prog 11 #[.agg #[.int .i64 m, .int .i64 s]] W fun e w' => e = .returned (.bool false) ∧ Below W.heap.size W w') := Lib.hid (fun W => by
    have := fits_any (w := W) (m := m) (s := s)
    rw [hd] at this
    exact this)
  have HP : Hid (∀ W : World, Calls Try.prog 8 #[.agg #[.int .i64 m, .int .i64 s]] W fun e w' => e = .returned (.tuple #[.int .i64 0, .int .i64 8]) ∧ Below W.heap.size W w') := Lib.hid (fun W => by
    have := pack_any (w := W) (m := m) (s := s)
    rw [h] at this
    rw [b0] at this
    exact this)
  have HU : Hid (∀ W : World, Calls Try.prog 13 #[.int .i64 0] W fun e w' => e = .returned (.tuple #[.agg #[.int .i64 0, .int .i64 0], .int .i64 0]) ∧ Below W.heap.size W w') := Lib.hid (fun W => by
    have := unpack_any (w := W) (n := 0)
    rw [show uV 0 = .agg #[.int .i64 0, .int .i64 0] by unfold uV; rw [if_pos (by decide +kernel)]; rfl] at this
    rw [show uE 0 = 0 by decide +kernel] at this
    exact this)
  clear b0 hd h hc
  have HB : Hid (SB w 0 [] w) := Lib.hid ⟨Below.refl _ _, Nat.le_refl _, fun x hx => by cases hx⟩
  cases low
  · obtain rfl := (hl rfl).symm
    clear hl hn
    go_enter Try.func5, Try.ntmps5
    go_wp2_with fail
    refine (HK.out _).mono ?_
    rintro e w1 ⟨rfl, hb⟩
    have HB1 := Lib.hid (HB.out.call hb)
    clear hb HB
    have HB := HB1
    clear HB1
    go_wp2_with fail
    refine (HC.out _).mono ?_
    rintro e w2 ⟨rfl, hb⟩
    have HB2 := Lib.hid ((HB.out.alloc 23 #[.int .i64 m, .int .i64 s]).call hb)
    clear hb HB
    have HB := HB2
    clear HB2
    have q0 := HB.out.bk _ (.head _)
    have c00 := q0.cell 0
    have c01 := q0.cell 1
    clear q0
    go_wp2_with fail
    refine (HP.out _).mono ?_
    rintro e w3 ⟨rfl, hb⟩
    clear c00 c01
    have HB3 := Lib.hid (HB.out.call hb)
    clear hb HB
    have HB := HB3
    clear HB3
    have q0 := HB.out.bk _ (.head _)
    have c00 := q0.cell 0
    have c01 := q0.cell 1
    clear q0
    go_wp2_with fail
    refine (HF.out _).mono ?_
    rintro e w4 ⟨rfl, hb⟩
    clear c00 c01
    have HB4 := Lib.hid (HB.out.call hb)
    clear hb HB
    have HB := HB4
    clear HB4
    go_wp2_with fail
    refine (HU.out _).mono ?_
    rintro e w5 ⟨rfl, hb⟩
    have HB5 := Lib.hid ((HB.out.call hb).alloc 23 #[.int .i64 0, .int .i64 0])
    clear hb HB
    have HB := HB5
    clear HB5
    have hbel := HB.out.bel
    clear HC HF HP HK HB HU
    go_wp2
    go_ret
    exact ⟨rfl, hbel⟩
  · have hq := hn rfl
    have hq2 : wrap64 (-p) = m := by rw [← hq, Int.zero_sub]
    clear hl hn
    go_enter Try.func5, Try.ntmps5
    go_wp2_with fail
    refine (HK.out _).mono ?_
    rintro e w1 ⟨rfl, hb⟩
    have HB1 := Lib.hid (HB.out.call hb)
    clear hb HB
    have HB := HB1
    clear HB1
    go_wp2_with fail
    refine (HC.out _).mono ?_
    rintro e w2 ⟨rfl, hb⟩
    have HB2 := Lib.hid ((HB.out.alloc 23 #[.int .i64 m, .int .i64 s]).call hb)
    clear hb HB
    have HB := HB2
    clear HB2
    have q0 := HB.out.bk _ (.head _)
    have c00 := q0.cell 0
    have c01 := q0.cell 1
    clear q0
    go_wp2_with fail
    refine (HP.out _).mono ?_
    rintro e w3 ⟨rfl, hb⟩
    clear c00 c01
    have HB3 := Lib.hid (HB.out.call hb)
    clear hb HB
    have HB := HB3
    clear HB3
    have q0 := HB.out.bk _ (.head _)
    have c00 := q0.cell 0
    have c01 := q0.cell 1
    clear q0
    go_wp2_with fail
    refine (HF.out _).mono ?_
    rintro e w4 ⟨rfl, hb⟩
    clear c00 c01
    have HB4 := Lib.hid (HB.out.call hb)
    clear hb HB
    have HB := HB4
    clear HB4
    go_wp2_with fail
    refine (HU.out _).mono ?_
    rintro e w5 ⟨rfl, hb⟩
    have HB5 := Lib.hid ((HB.out.call hb).alloc 23 #[.int .i64 0, .int .i64 0])
    clear hb HB
    have HB := HB5
    clear HB5
    have hbel := HB.out.bel
    clear HC HF HP HK HB HU
    go_wp2
    go_ret
    exact ⟨rfl, hbel⟩

theorem edges_any {w : World} {n s' : Int} {low : Bool} (h0 : -32768 ≤ n) (h1 : n ≤ 32767) :
    Calls Try.prog 5 #[.int .i16 n, .bool low, .int .u8 s'] w fun e w' => e = .returned (.bool true) ∧ Below w.heap.size w w' := by
  obtain ⟨m, hl, hn⟩ : ∃ m : Int, (low = false → wrap64 (134217728 + n) = m) ∧ (low = true → wrap64 (0 - wrap64 (134217728 + n)) = m) := by
    cases low
    · exact ⟨wrap64 (134217728 + n), by simp, by simp⟩
    · exact ⟨wrap64 (0 - wrap64 (134217728 + n)), by simp, by simp⟩
  have hw : wrap64 n = n := IntWalk.wrap64_in _ ⟨by omega, by omega⟩
  rcases rk_cases m (wrap64 (s'.tmod 10)) with h | h | h
  · obtain ⟨-, h2, h3⟩ := rk_ok h
    exact edges_in_mid h h2 (by omega) hw rfl hl hn rfl
  · by_cases h2 : m < -134217728
    · exact edges_bad_lo h h2 hw rfl hl hn rfl
    · by_cases h3 : m < 134217728
      · exact edges_bad_mid h (by omega) h3 hw rfl hl hn rfl
      · exact edges_bad_hi h (by omega) (by omega) hw rfl hl hn rfl
  · obtain ⟨-, hx⟩ := rk_out h
    by_cases h2 : m < -134217728
    · exact edges_out_lo h h2 hw rfl hl hn rfl
    · exact edges_out_hi h (by omega) (by omega) hw rfl hl hn rfl
end Go.Proofs.Ytafdbdkggogigaa
