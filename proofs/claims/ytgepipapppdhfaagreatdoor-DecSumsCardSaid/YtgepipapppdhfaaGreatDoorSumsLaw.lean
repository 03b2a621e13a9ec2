/- cashbooklaw4.DecSums by its contract: it returns true. Condition: numbers within 64 bits. -/
import Derived.Test.YtgepipapppdhfaaGreatDoorKnown4
import Derived.Test.YtgepipapppdhfaaGreatDoorDivR
import Derived.Test.YtgepipapppdhfaaGreatDoorD4
namespace Go.Proofs.YtgepipapppdhfaaGreatDoor
open Go.RowKit

theorem of_any {w : World} {m s : Int} :
    Calls Tryz.prog 7 #[.agg #[.int .i64 m, .int .i64 s]] w fun e w' => e = .returned (.agg #[.int .i64 m, .int .i64 s]) ∧ Below w.heap.size w w' := by
  go_enter Tryz.func7, Tryz.ntmps7
  go_wp2
  exact bodyPost_ret (v := .agg #[.int .i64 m, .int .i64 s]) (by simp [results, Tryz.results7, go_sem]) rfl ⟨rfl, bel1 _ _ _⟩

theorem ckE_cases (m s : Int) : ckE m s = 0 ∨ ckE m s = 1 := by unfold ckE; split <;> simp
/-- What Check takes stands. -/
theorem gd_of {m s : Int} (h : ckE m s = 0) (h0 : -9223372036854775808 ≤ m) (h1 : m ≤ 9223372036854775807) : ∃ t : Nat, s = (t : Int) ∧ Gd m t := by
  unfold ckE at h
  by_cases hc : s < 0 ∨ 9 < s ∨ (0 < s ∧ m % 10 = 0)
  · rw [if_pos hc] at h; omega
  · refine ⟨s.toNat, by omega, ⟨h0, h1, by omega, ?_⟩⟩
    rcases Nat.eq_zero_or_pos s.toNat with h2 | h2
    · exact .inl h2
    · right; omega
theorem bnot {w : World} {m s : Int} (h : ckE m s = 1) :
    Calls Tryz.prog 6 #[.agg #[.int .i64 m, .int .i64 s]] w fun e w' => e = .returned (.int .i64 1) ∧ Below w.heap.size w w' := by
  have := bCheck_any (w := w) (m := m) (s := s)
  rw [h] at this
  exact this
theorem byes {w : World} {m : Int} {s : Nat} (h : Gd m s) :
    Calls Tryz.prog 6 #[.agg #[.int .i64 m, .int .i64 (s : Nat)]] w fun e w' => e = .returned (.int .i64 0) ∧ Below w.heap.size w w' := by
  have := bCheck_any (w := w) (m := m) (s := s)
  rw [h.ck] at this
  exact this

theorem bok {w : World} {m s : Int} (h : ckE m s = 0) :
    Calls Tryz.prog 6 #[.agg #[.int .i64 m, .int .i64 s]] w fun e w' => e = .returned (.int .i64 0) ∧ Below w.heap.size w w' := by
  have := bCheck_any (w := w) (m := m) (s := s)
  rw [h] at this
  exact this
theorem goodT {w : World} {m s n t : Int} (h1 : ckE m s = 0) (h2 : ckE n t = 0) :
    Calls Tryz.prog 8 #[.agg #[.int .i64 m, .int .i64 s], .agg #[.int .i64 n, .int .i64 t]] w fun e w' => e = .returned (.bool true) ∧ Below w.heap.size w w' := by
  have HO1 := Lib.hid (fun W : World => of_any (w := W) (m := m) (s := s))
  have HO2 := Lib.hid (fun W : World => of_any (w := W) (m := n) (s := t))
  have HK1 := Lib.hid (fun W : World => bok (w := W) h1)
  have HK2 := Lib.hid (fun W : World => bok (w := W) h2)
  clear h1 h2
  have H0 : Hid (SB w 2 [((w.heap.size + 1), 23, #[.int .i64 n, .int .i64 t]), (w.heap.size, 23, #[.int .i64 m, .int .i64 s])] ((w.alloc (.cells #[.int .i64 m, .int .i64 s] 23)).alloc (.cells #[.int .i64 n, .int .i64 t] 23))) := Lib.hid ((sb1 w 23 _).push (by simp) 23 _)
  go_enter Tryz.func8, Tryz.ntmps8
  go_wp2_with fail
  refine (HO1.out _).mono ?_
  rintro e w1 ⟨rfl, hb⟩
  have HB := Lib.hid (H0.out.call hb)
  clear hb H0
  have q0 := HB.out.bk _ (.head _)
  have c00 := q0.cell 0
  have c01 := q0.cell 1
  clear q0
  have q1 := HB.out.bk _ (.tail _ (.head _))
  have c10 := q1.cell 0
  have c11 := q1.cell 1
  clear q1
  go_wp2_with fail
  refine (HK1.out _).mono ?_
  rintro e w2 ⟨rfl, hb⟩
  clear c00 c01 c10 c11
  have HB2 := Lib.hid (HB.out.call hb)
  clear hb HB
  have HB := HB2
  clear HB2
  have q0 := HB.out.bk _ (.head _)
  have c00 := q0.cell 0
  have c01 := q0.cell 1
  clear q0
  have q1 := HB.out.bk _ (.tail _ (.head _))
  have c10 := q1.cell 0
  have c11 := q1.cell 1
  clear q1
  go_wp2_with fail
  refine (HO2.out _).mono ?_
  rintro e w3 ⟨rfl, hb⟩
  clear c00 c01 c10 c11
  have HB3 := Lib.hid (HB.out.call hb)
  clear hb HB
  have HB := HB3
  clear HB3
  have q0 := HB.out.bk _ (.head _)
  have c00 := q0.cell 0
  have c01 := q0.cell 1
  clear q0
  have q1 := HB.out.bk _ (.tail _ (.head _))
  have c10 := q1.cell 0
  have c11 := q1.cell 1
  clear q1
  go_wp2_with fail
  refine (HK2.out _).mono ?_
  rintro e w4 ⟨rfl, hb⟩
  clear c00 c01 c10 c11
  have HB4 := Lib.hid (HB.out.call hb)
  clear hb HB
  have HB := HB4
  clear HB4
  have hbel := HB.out.bel
  go_wp2
  go_ret
  exact ⟨rfl, hbel⟩

theorem goodF1 {w : World} {m s n t : Int} (h1 : ckE m s = 1) :
    Calls Tryz.prog 8 #[.agg #[.int .i64 m, .int .i64 s], .agg #[.int .i64 n, .int .i64 t]] w fun e w' => e = .returned (.bool false) ∧ Below w.heap.size w w' := by
  have HO1 := Lib.hid (fun W : World => of_any (w := W) (m := m) (s := s))
  have HO2 := Lib.hid (fun W : World => of_any (w := W) (m := n) (s := t))
  have HK1 := Lib.hid (fun W : World => bnot (w := W) h1)
  clear h1
  have H0 : Hid (SB w 2 [((w.heap.size + 1), 23, #[.int .i64 n, .int .i64 t]), (w.heap.size, 23, #[.int .i64 m, .int .i64 s])] ((w.alloc (.cells #[.int .i64 m, .int .i64 s] 23)).alloc (.cells #[.int .i64 n, .int .i64 t] 23))) := Lib.hid ((sb1 w 23 _).push (by simp) 23 _)
  go_enter Tryz.func8, Tryz.ntmps8
  go_wp2_with fail
  refine (HO1.out _).mono ?_
  rintro e w1 ⟨rfl, hb⟩
  have HB := Lib.hid (H0.out.call hb)
  clear hb H0
  have q0 := HB.out.bk _ (.head _)
  have c00 := q0.cell 0
  have c01 := q0.cell 1
  clear q0
  have q1 := HB.out.bk _ (.tail _ (.head _))
  have c10 := q1.cell 0
  have c11 := q1.cell 1
  clear q1
  go_wp2_with fail
  refine (HK1.out _).mono ?_
  rintro e w2 ⟨rfl, hb⟩
  clear c00 c01 c10 c11
  have HB2 := Lib.hid (HB.out.call hb)
  clear hb HB
  have HB := HB2
  clear HB2
  have hbel := HB.out.bel
  go_wp2
  go_ret
  exact ⟨rfl, hbel⟩

theorem goodF2 {w : World} {m s n t : Int} (h1 : ckE m s = 0) (h2 : ckE n t = 1) :
    Calls Tryz.prog 8 #[.agg #[.int .i64 m, .int .i64 s], .agg #[.int .i64 n, .int .i64 t]] w fun e w' => e = .returned (.bool false) ∧ Below w.heap.size w w' := by
  have HO1 := Lib.hid (fun W : World => of_any (w := W) (m := m) (s := s))
  have HO2 := Lib.hid (fun W : World => of_any (w := W) (m := n) (s := t))
  have HK1 := Lib.hid (fun W : World => bok (w := W) h1)
  have HK2 := Lib.hid (fun W : World => bnot (w := W) h2)
  clear h1 h2
  have H0 : Hid (SB w 2 [((w.heap.size + 1), 23, #[.int .i64 n, .int .i64 t]), (w.heap.size, 23, #[.int .i64 m, .int .i64 s])] ((w.alloc (.cells #[.int .i64 m, .int .i64 s] 23)).alloc (.cells #[.int .i64 n, .int .i64 t] 23))) := Lib.hid ((sb1 w 23 _).push (by simp) 23 _)
  go_enter Tryz.func8, Tryz.ntmps8
  go_wp2_with fail
  refine (HO1.out _).mono ?_
  rintro e w1 ⟨rfl, hb⟩
  have HB := Lib.hid (H0.out.call hb)
  clear hb H0
  have q0 := HB.out.bk _ (.head _)
  have c00 := q0.cell 0
  have c01 := q0.cell 1
  clear q0
  have q1 := HB.out.bk _ (.tail _ (.head _))
  have c10 := q1.cell 0
  have c11 := q1.cell 1
  clear q1
  go_wp2_with fail
  refine (HK1.out _).mono ?_
  rintro e w2 ⟨rfl, hb⟩
  clear c00 c01 c10 c11
  have HB2 := Lib.hid (HB.out.call hb)
  clear hb HB
  have HB := HB2
  clear HB2
  have q0 := HB.out.bk _ (.head _)
  have c00 := q0.cell 0
  have c01 := q0.cell 1
  clear q0
  have q1 := HB.out.bk _ (.tail _ (.head _))
  have c10 := q1.cell 0
  have c11 := q1.cell 1
  clear q1
  go_wp2_with fail
  refine (HO2.out _).mono ?_
  rintro e w3 ⟨rfl, hb⟩
  clear c00 c01 c10 c11
  have HB3 := Lib.hid (HB.out.call hb)
  clear hb HB
  have HB := HB3
  clear HB3
  have q0 := HB.out.bk _ (.head _)
  have c00 := q0.cell 0
  have c01 := q0.cell 1
  clear q0
  have q1 := HB.out.bk _ (.tail _ (.head _))
  have c10 := q1.cell 0
  have c11 := q1.cell 1
  clear q1
  go_wp2_with fail
  refine (HK2.out _).mono ?_
  rintro e w4 ⟨rfl, hb⟩
  clear c00 c01 c10 c11
  have HB4 := Lib.hid (HB.out.call hb)
  clear hb HB
  have HB := HB4
  clear HB4
  have hbel := HB.out.bel
  go_wp2
  go_ret
  exact ⟨rfl, hbel⟩

theorem SB.perm {w W : World} {n : Nat} {bs bs' : List (Nat × TypeId × Array Value)} (h : SB w n bs W) (hs : ∀ x ∈ bs', x ∈ bs) : SB w n bs' W := ⟨h.bel, h.size, fun x hx => h.bk x (hs x hx)⟩
theorem SB.more {w W : World} {n n' : Nat} {bs : List (Nat × TypeId × Array Value)} (h : SB w n bs W) (hs : w.heap.size + n' ≤ W.heap.size) : SB w n' bs W := ⟨h.bel, hs, h.bk⟩

set_option maxRecDepth 100000 in
set_option maxHeartbeats 4000000 in
theorem sums_a {w : World} {m n s t : Int} (h1 : ckE m s = 1) :
    Calls Tryz.prog 3 #[.agg #[.int .i64 m, .int .i64 s], .agg #[.int .i64 n, .int .i64 t]] w fun e w' => e = .returned (.bool true) ∧ Below w.heap.size w w' := by
  have HK := Lib.hid (fun W : World => known4_any W)
  have HC : Hid (∀ W : World, Calls Tryz.prog 5 #[.agg #[.int .i64 m, .int .i64 s]] W fun e w' => e = .returned (.int .i64 1) ∧ Below W.heap.size W w') := Lib.hid (fun W => by
    have h := check_any (w := W) (m := m) (s := s)
    rw [h1] at h
    exact h)
  have HCR : Hid (∀ W : World, Calls Tryz.prog 6 #[.agg #[.int .i64 m, .int .i64 s]] W fun e w' => e = .returned (.int .i64 1) ∧ Below W.heap.size W w') := Lib.hid (fun W => bnot (w := W) h1)
  have HO : Hid (∀ W : World, Calls Tryz.prog 7 #[.agg #[.int .i64 m, .int .i64 s]] W fun e w' => e = .returned (.agg #[.int .i64 m, .int .i64 s]) ∧ Below W.heap.size W w') := Lib.hid (fun W => of_any)
  have HG : Hid (∀ W : World, Calls Tryz.prog 8 #[.agg #[.int .i64 m, .int .i64 s], .agg #[.int .i64 n, .int .i64 t]] W fun e w' => e = .returned (.bool false) ∧ Below W.heap.size W w') := Lib.hid (fun W => goodF1 (w := W) h1)
  clear h1
  have HB : Hid (SB w 2 [((w.heap.size + 1), 23, #[.int .i64 n, .int .i64 t]), (w.heap.size, 23, #[.int .i64 m, .int .i64 s])] ((w.alloc (.cells #[.int .i64 m, .int .i64 s] 23)).alloc (.cells #[.int .i64 n, .int .i64 t] 23))) := Lib.hid ((sb1 w 23 _).push (by simp) 23 _)
  go_enter Tryz.func3, Tryz.ntmps3
  go_wp2_with fail
  refine (HK.out _).mono ?_
  rintro e w1 ⟨rfl, hb⟩
  have HB1 := Lib.hid (HB.out.call hb)
  clear hb HB
  have HB := HB1
  clear HB1
  go_wp2_with fail
  refine wp_region_phases (S := (S1 w 2 ([((w.heap.size + 1), 23, #[.int .i64 n, .int .i64 t]), (w.heap.size, 23, #[.int .i64 m, .int .i64 s])] : List (Nat × TypeId × Array Value)) ([((w.heap.size + 1), 23, #[.int .i64 n, .int .i64 t]), (w.heap.size, 23, #[.int .i64 m, .int .i64 s])] : List (Nat × TypeId × Array Value)))) (E := (fun _ _ => True)) [] [(2, Is (.pointer (some ⟨w.heap.size, 0, none⟩))), (3, Is (.pointer (some ⟨(w.heap.size + 1), 0, none⟩))), (4, Is (.bool false))] [(11, Is (.agg #[.int .i64 m, .int .i64 s])), (12, Is (.int .i64 1)), (13, Is (.agg #[.int .i64 m, .int .i64 s])), (14, Is (.agg #[.int .i64 m, .int .i64 s])), (15, Is (.int .i64 1)), (16, Is (.bool false))]
    [.op [2] none, .op [11] none, .op [2] none, .op [13] none, .op [14] none, .op [12, 15] none] (by as_aux_lemma => kernel_rfl) ?_ ?_ ?_ ?_ ?_ ⟨stable_is _ _, stable_is _ _, stable_is _ _, stable_is _ _, stable_is _ _, stable_is _ _, stable_is _ _, stable_is _ _, stable_is _ _, trivial⟩ ?_ (HB.out.drew) ?_ ?_
  · as_aux_lemma => kernel_rfl
  · as_aux_lemma => kernel_rfl
  · as_aux_lemma => kernel_rfl
  · as_aux_lemma => kernel_rfl
  · as_aux_lemma => kernel_rfl
  · exact ⟨rfl, rfl, rfl, trivial⟩
  · refine ⟨?_, ?_, ?_, ?_, ?_, ?_, trivial⟩
    · as_aux_lemma =>
        intro vals a W hS hL
        have e2 : a.tmps.getD 2 undef = .pointer (some ⟨w.heap.size, 0, none⟩) := hL.1
        clear hL
        have kb : Bk W w.heap.size 23 #[.int .i64 m, .int .i64 s] := hS.bk (.tail _ (.head _)) (.tail _ (.head _))
        have f0 := kb.cell 0
        have f1 := kb.cell 1
        clear kb
        go_simp
        exact ⟨⟨fun d hd => by injection hd with hd; subst hd; rfl, fun h => by cases h⟩, hS, trivial⟩
    · as_aux_lemma =>
        intro vals a W hS hL
        have e11 : a.tmps.getD 11 undef = .agg #[.int .i64 m, .int .i64 s] := hL.1
        clear hL
        go_simp
        refine (HC.out W).mono ?_
        rintro e W' ⟨rfl, hb⟩
        exact ⟨_, rfl, ⟨fun d hd => by injection hd with hd; subst hd; rfl, fun h => by cases h⟩, hS.call hb, trivial⟩
    · as_aux_lemma =>
        intro vals a W hS hL
        have e2 : a.tmps.getD 2 undef = .pointer (some ⟨w.heap.size, 0, none⟩) := hL.1
        clear hL
        have kb : Bk W w.heap.size 23 #[.int .i64 m, .int .i64 s] := hS.bk (.tail _ (.head _)) (.tail _ (.head _))
        have f0 := kb.cell 0
        have f1 := kb.cell 1
        clear kb
        go_simp
        exact ⟨⟨fun d hd => by injection hd with hd; subst hd; rfl, fun h => by cases h⟩, hS, trivial⟩
    · as_aux_lemma =>
        intro vals a W hS hL
        have e13 : a.tmps.getD 13 undef = .agg #[.int .i64 m, .int .i64 s] := hL.1
        clear hL
        go_simp
        refine (HO.out W).mono ?_
        rintro e W' ⟨rfl, hb⟩
        exact ⟨_, rfl, ⟨fun d hd => by injection hd with hd; subst hd; rfl, fun h => by cases h⟩, hS.call hb, trivial⟩
    · as_aux_lemma =>
        intro vals a W hS hL
        have e14 : a.tmps.getD 14 undef = .agg #[.int .i64 m, .int .i64 s] := hL.1
        clear hL
        go_simp
        refine (HCR.out W).mono ?_
        rintro e W' ⟨rfl, hb⟩
        exact ⟨_, rfl, ⟨fun d hd => by injection hd with hd; subst hd; rfl, fun h => by cases h⟩, hS.call hb, trivial⟩
    · as_aux_lemma =>
        intro vals a W hS hL
        have e12 : a.tmps.getD 12 undef = .int .i64 1 := hL.1
        have e15 : a.tmps.getD 15 undef = .int .i64 1 := hL.2.1
        clear hL
        go_simp
        exact ⟨⟨fun d hd => by injection hd with hd; subst hd; rfl, fun h => by cases h⟩, hS, trivial⟩
  · intro a W' vals hd hsz hT hF hv hP hS
    obtain rfl : vals = [] := List.eq_nil_of_length_eq_zero hv
    have hB : SB w 2 ([((w.heap.size + 1), 23, #[.int .i64 n, .int .i64 t]), (w.heap.size, 23, #[.int .i64 m, .int .i64 s])] : List (Nat × TypeId × Array Value)) W' := hS
    clear hS
    have e2 : a.tmps.getD 2 undef = .pointer (some ⟨w.heap.size, 0, none⟩) := hT 2 (by simp)
    have e3 : a.tmps.getD 3 undef = .pointer (some ⟨(w.heap.size + 1), 0, none⟩) := hT 3 (by simp)
    have e16 : a.tmps.getD 16 undef = .bool false := hT 16 (by simp)
    clear hT hF hP
    rw [act_lit 124 a hd hsz]
    simp only [List.range, List.range.loop, List.map, e2, e3, e16]
    clear e2 e3 e16
    clear hsz hd
    have HB2 := Lib.hid hB
    clear hB HB
    have HB := HB2
    clear HB2
    have q0 := HB.out.bk _ (List.mem_cons_self ..)
    have c00 := q0.cell 0
    have c01 := q0.cell 1
    clear q0
    have q1 := HB.out.bk _ (.tail _ (.head _))
    have c10 := q1.cell 0
    have c11 := q1.cell 1
    clear q1
    go_wp2_with fail
    refine (HG.out _).mono ?_
    rintro e w5 ⟨rfl, hb⟩
    clear c00 c01 c10 c11
    have HB5 := Lib.hid (HB.out.call hb)
    clear hb HB
    have HB := HB5
    clear HB5
    have hbel := HB.out.bel
    go_wp2
    go_ret
    exact ⟨rfl, hbel⟩

set_option maxRecDepth 100000 in
set_option maxHeartbeats 4000000 in
theorem sums_b {w : World} {m n s t : Int} (h1 : ckE m s = 0) (h2 : ckE n t = 1) :
    Calls Tryz.prog 3 #[.agg #[.int .i64 m, .int .i64 s], .agg #[.int .i64 n, .int .i64 t]] w fun e w' => e = .returned (.bool true) ∧ Below w.heap.size w w' := by
  have HK := Lib.hid (fun W : World => known4_any W)
  have HC : Hid (∀ W : World, Calls Tryz.prog 5 #[.agg #[.int .i64 m, .int .i64 s]] W fun e w' => e = .returned (.int .i64 0) ∧ Below W.heap.size W w') := Lib.hid (fun W => by
    have h := check_any (w := W) (m := m) (s := s)
    rw [h1] at h
    exact h)
  have HCR : Hid (∀ W : World, Calls Tryz.prog 6 #[.agg #[.int .i64 m, .int .i64 s]] W fun e w' => e = .returned (.int .i64 0) ∧ Below W.heap.size W w') := Lib.hid (fun W => bok (w := W) h1)
  have HO : Hid (∀ W : World, Calls Tryz.prog 7 #[.agg #[.int .i64 m, .int .i64 s]] W fun e w' => e = .returned (.agg #[.int .i64 m, .int .i64 s]) ∧ Below W.heap.size W w') := Lib.hid (fun W => of_any)
  have HG : Hid (∀ W : World, Calls Tryz.prog 8 #[.agg #[.int .i64 m, .int .i64 s], .agg #[.int .i64 n, .int .i64 t]] W fun e w' => e = .returned (.bool false) ∧ Below W.heap.size W w') := Lib.hid (fun W => goodF2 (w := W) h1 h2)
  clear h1 h2
  have HB : Hid (SB w 2 [((w.heap.size + 1), 23, #[.int .i64 n, .int .i64 t]), (w.heap.size, 23, #[.int .i64 m, .int .i64 s])] ((w.alloc (.cells #[.int .i64 m, .int .i64 s] 23)).alloc (.cells #[.int .i64 n, .int .i64 t] 23))) := Lib.hid ((sb1 w 23 _).push (by simp) 23 _)
  go_enter Tryz.func3, Tryz.ntmps3
  go_wp2_with fail
  refine (HK.out _).mono ?_
  rintro e w1 ⟨rfl, hb⟩
  have HB1 := Lib.hid (HB.out.call hb)
  clear hb HB
  have HB := HB1
  clear HB1
  go_wp2_with fail
  refine wp_region_phases (S := (S1 w 2 ([((w.heap.size + 1), 23, #[.int .i64 n, .int .i64 t]), (w.heap.size, 23, #[.int .i64 m, .int .i64 s])] : List (Nat × TypeId × Array Value)) ([((w.heap.size + 1), 23, #[.int .i64 n, .int .i64 t]), (w.heap.size, 23, #[.int .i64 m, .int .i64 s])] : List (Nat × TypeId × Array Value)))) (E := (fun _ _ => True)) [] [(2, Is (.pointer (some ⟨w.heap.size, 0, none⟩))), (3, Is (.pointer (some ⟨(w.heap.size + 1), 0, none⟩))), (4, Is (.bool false))] [(11, Is (.agg #[.int .i64 m, .int .i64 s])), (12, Is (.int .i64 0)), (13, Is (.agg #[.int .i64 m, .int .i64 s])), (14, Is (.agg #[.int .i64 m, .int .i64 s])), (15, Is (.int .i64 0)), (16, Is (.bool false))]
    [.op [2] none, .op [11] none, .op [2] none, .op [13] none, .op [14] none, .op [12, 15] none] (by as_aux_lemma => kernel_rfl) ?_ ?_ ?_ ?_ ?_ ⟨stable_is _ _, stable_is _ _, stable_is _ _, stable_is _ _, stable_is _ _, stable_is _ _, stable_is _ _, stable_is _ _, stable_is _ _, trivial⟩ ?_ (HB.out.drew) ?_ ?_
  · as_aux_lemma => kernel_rfl
  · as_aux_lemma => kernel_rfl
  · as_aux_lemma => kernel_rfl
  · as_aux_lemma => kernel_rfl
  · as_aux_lemma => kernel_rfl
  · exact ⟨rfl, rfl, rfl, trivial⟩
  · refine ⟨?_, ?_, ?_, ?_, ?_, ?_, trivial⟩
    · as_aux_lemma =>
        intro vals a W hS hL
        have e2 : a.tmps.getD 2 undef = .pointer (some ⟨w.heap.size, 0, none⟩) := hL.1
        clear hL
        have kb : Bk W w.heap.size 23 #[.int .i64 m, .int .i64 s] := hS.bk (.tail _ (.head _)) (.tail _ (.head _))
        have f0 := kb.cell 0
        have f1 := kb.cell 1
        clear kb
        go_simp
        exact ⟨⟨fun d hd => by injection hd with hd; subst hd; rfl, fun h => by cases h⟩, hS, trivial⟩
    · as_aux_lemma =>
        intro vals a W hS hL
        have e11 : a.tmps.getD 11 undef = .agg #[.int .i64 m, .int .i64 s] := hL.1
        clear hL
        go_simp
        refine (HC.out W).mono ?_
        rintro e W' ⟨rfl, hb⟩
        exact ⟨_, rfl, ⟨fun d hd => by injection hd with hd; subst hd; rfl, fun h => by cases h⟩, hS.call hb, trivial⟩
    · as_aux_lemma =>
        intro vals a W hS hL
        have e2 : a.tmps.getD 2 undef = .pointer (some ⟨w.heap.size, 0, none⟩) := hL.1
        clear hL
        have kb : Bk W w.heap.size 23 #[.int .i64 m, .int .i64 s] := hS.bk (.tail _ (.head _)) (.tail _ (.head _))
        have f0 := kb.cell 0
        have f1 := kb.cell 1
        clear kb
        go_simp
        exact ⟨⟨fun d hd => by injection hd with hd; subst hd; rfl, fun h => by cases h⟩, hS, trivial⟩
    · as_aux_lemma =>
        intro vals a W hS hL
        have e13 : a.tmps.getD 13 undef = .agg #[.int .i64 m, .int .i64 s] := hL.1
        clear hL
        go_simp
        refine (HO.out W).mono ?_
        rintro e W' ⟨rfl, hb⟩
        exact ⟨_, rfl, ⟨fun d hd => by injection hd with hd; subst hd; rfl, fun h => by cases h⟩, hS.call hb, trivial⟩
    · as_aux_lemma =>
        intro vals a W hS hL
        have e14 : a.tmps.getD 14 undef = .agg #[.int .i64 m, .int .i64 s] := hL.1
        clear hL
        go_simp
        refine (HCR.out W).mono ?_
        rintro e W' ⟨rfl, hb⟩
        exact ⟨_, rfl, ⟨fun d hd => by injection hd with hd; subst hd; rfl, fun h => by cases h⟩, hS.call hb, trivial⟩
    · as_aux_lemma =>
        intro vals a W hS hL
        have e12 : a.tmps.getD 12 undef = .int .i64 0 := hL.1
        have e15 : a.tmps.getD 15 undef = .int .i64 0 := hL.2.1
        clear hL
        go_simp
        exact ⟨⟨fun d hd => by injection hd with hd; subst hd; rfl, fun h => by cases h⟩, hS, trivial⟩
  · intro a W' vals hd hsz hT hF hv hP hS
    obtain rfl : vals = [] := List.eq_nil_of_length_eq_zero hv
    have hB : SB w 2 ([((w.heap.size + 1), 23, #[.int .i64 n, .int .i64 t]), (w.heap.size, 23, #[.int .i64 m, .int .i64 s])] : List (Nat × TypeId × Array Value)) W' := hS
    clear hS
    have e2 : a.tmps.getD 2 undef = .pointer (some ⟨w.heap.size, 0, none⟩) := hT 2 (by simp)
    have e3 : a.tmps.getD 3 undef = .pointer (some ⟨(w.heap.size + 1), 0, none⟩) := hT 3 (by simp)
    have e16 : a.tmps.getD 16 undef = .bool false := hT 16 (by simp)
    clear hT hF hP
    rw [act_lit 124 a hd hsz]
    simp only [List.range, List.range.loop, List.map, e2, e3, e16]
    clear e2 e3 e16
    clear hsz hd
    have HB2 := Lib.hid hB
    clear hB HB
    have HB := HB2
    clear HB2
    have q0 := HB.out.bk _ (List.mem_cons_self ..)
    have c00 := q0.cell 0
    have c01 := q0.cell 1
    clear q0
    have q1 := HB.out.bk _ (.tail _ (.head _))
    have c10 := q1.cell 0
    have c11 := q1.cell 1
    clear q1
    go_wp2_with fail
    refine (HG.out _).mono ?_
    rintro e w5 ⟨rfl, hb⟩
    clear c00 c01 c10 c11
    have HB5 := Lib.hid (HB.out.call hb)
    clear hb HB
    have HB := HB5
    clear HB5
    have hbel := HB.out.bel
    go_wp2
    go_ret
    exact ⟨rfl, hbel⟩

set_option maxRecDepth 100000 in
set_option maxHeartbeats 4000000 in
theorem sums_good {w : World} {m n : Int} {s t : Nat} (hx : Gd m s) (hy : Gd n t) :
    Calls Tryz.prog 3 #[.agg #[.int .i64 m, .int .i64 (s : Nat)], .agg #[.int .i64 n, .int .i64 (t : Nat)]] w fun e w' => e = .returned (.bool true) ∧ Below w.heap.size w w' := by
  have HK := Lib.hid (fun W : World => known4_any W)
  obtain ⟨am, az, ae, Ha, Ra⟩ : ∃ (pm : Int) (pz pe : Nat), Hid (∀ W : World, Calls Tryz.prog 9 #[.agg #[.int .i64 m, .int .i64 (s : Nat)], .agg #[.int .i64 n, .int .i64 (t : Nat)]] W fun e w' => e = .returned (.tuple #[.agg #[.int .i64 pm, .int .i64 (pz : Nat)], .int .i64 (pe : Nat)]) ∧ Below W.heap.size W w') ∧ Hid (∀ W : World, Calls Tryz.prog 10 #[.agg #[.int .i64 m, .int .i64 (s : Nat)], .agg #[.int .i64 n, .int .i64 (t : Nat)]] W fun e w' => e = .returned (.tuple #[.agg #[.int .i64 pm, .int .i64 (pz : Nat)], .int .i64 (pe : Nat)]) ∧ Below W.heap.size W w') := ⟨(addD m s n t).m, (addD m s n t).s, (addD m s n t).e, Lib.hid (fun W => dadd_any hx hy), Lib.hid (fun W => bAdd_any hx hy)⟩
  obtain ⟨bm, bz, be, Hb, Rb⟩ : ∃ (pm : Int) (pz pe : Nat), Hid (∀ W : World, Calls Tryz.prog 11 #[.agg #[.int .i64 m, .int .i64 (s : Nat)], .agg #[.int .i64 n, .int .i64 (t : Nat)]] W fun e w' => e = .returned (.tuple #[.agg #[.int .i64 pm, .int .i64 (pz : Nat)], .int .i64 (pe : Nat)]) ∧ Below W.heap.size W w') ∧ Hid (∀ W : World, Calls Tryz.prog 12 #[.agg #[.int .i64 m, .int .i64 (s : Nat)], .agg #[.int .i64 n, .int .i64 (t : Nat)]] W fun e w' => e = .returned (.tuple #[.agg #[.int .i64 pm, .int .i64 (pz : Nat)], .int .i64 (pe : Nat)]) ∧ Below W.heap.size W w') := ⟨(subD m s n t).m, (subD m s n t).s, (subD m s n t).e, Lib.hid (fun W => dsub_any hx hy), Lib.hid (fun W => bSub_any hx hy)⟩
  obtain ⟨cm, cz, ce, Hc, Rc⟩ : ∃ (pm : Int) (pz pe : Nat), Hid (∀ W : World, Calls Tryz.prog 13 #[.agg #[.int .i64 m, .int .i64 (s : Nat)], .agg #[.int .i64 n, .int .i64 (t : Nat)]] W fun e w' => e = .returned (.tuple #[.agg #[.int .i64 pm, .int .i64 (pz : Nat)], .int .i64 (pe : Nat)]) ∧ Below W.heap.size W w') ∧ Hid (∀ W : World, Calls Tryz.prog 14 #[.agg #[.int .i64 m, .int .i64 (s : Nat)], .agg #[.int .i64 n, .int .i64 (t : Nat)]] W fun e w' => e = .returned (.tuple #[.agg #[.int .i64 pm, .int .i64 (pz : Nat)], .int .i64 (pe : Nat)]) ∧ Below W.heap.size W w') := ⟨(mulD m s n t).m, (mulD m s n t).s, (mulD m s n t).e, Lib.hid (fun W => mul_any hx hy), Lib.hid (fun W => bMul_any hx hy)⟩
  obtain ⟨dm, dz, de, Hd, Rdv⟩ : ∃ (pm : Int) (pz pe : Nat), Hid (∀ W : World, Calls Tryz.prog 15 #[.agg #[.int .i64 m, .int .i64 (s : Nat)], .agg #[.int .i64 n, .int .i64 (t : Nat)]] W fun e w' => e = .returned (.tuple #[.agg #[.int .i64 pm, .int .i64 (pz : Nat)], .int .i64 (pe : Nat)]) ∧ Below W.heap.size W w') ∧ Hid (∀ W : World, Calls Tryz.prog 16 #[.agg #[.int .i64 m, .int .i64 (s : Nat)], .agg #[.int .i64 n, .int .i64 (t : Nat)]] W fun e w' => e = .returned (.tuple #[.agg #[.int .i64 pm, .int .i64 (pz : Nat)], .int .i64 (pe : Nat)]) ∧ Below W.heap.size W w') := by
    by_cases hn : n = 0
    · subst hn
      obtain rfl : t = 0 := by
        rcases hy.last with h | h
        · exact h
        · exact absurd rfl h
      exact ⟨0, 0, 9, Lib.hid (fun W => divz_any hx), Lib.hid (fun W => bDivz_any)⟩
    · exact ⟨(divD m s n t).m, (divD m s n t).s, (divD m s n t).e, Lib.hid (fun W => div_any hx hy hn), Lib.hid (fun W => bDiv_any hx hy hn)⟩
  obtain ⟨cv, Hcmp, Rcmp⟩ : ∃ cv : Int, Hid (∀ W : World, Calls Tryz.prog 17 #[.agg #[.int .i64 m, .int .i64 (s : Nat)], .agg #[.int .i64 n, .int .i64 (t : Nat)]] W fun e w' => e = .returned (.int .i64 cv) ∧ Below W.heap.size W w') ∧ Hid (∀ W : World, Calls Tryz.prog 18 #[.agg #[.int .i64 m, .int .i64 (s : Nat)], .agg #[.int .i64 n, .int .i64 (t : Nat)]] W fun e w' => e = .returned (.int .i64 cv) ∧ Below W.heap.size W w') := ⟨cmp (val m s) (val n t), Lib.hid (fun W => compare_any hx hy), Lib.hid (fun W => bCmp_any hx hy)⟩
  have HC : Hid (∀ W : World, Calls Tryz.prog 5 #[.agg #[.int .i64 m, .int .i64 (s : Nat)]] W fun e w' => e = .returned (.int .i64 0) ∧ Below W.heap.size W w') := Lib.hid (fun W => by
    have h := check_any (w := W) (m := m) (s := (s : Int))
    rw [hx.ck] at h
    exact h)
  have HCR : Hid (∀ W : World, Calls Tryz.prog 6 #[.agg #[.int .i64 m, .int .i64 (s : Nat)]] W fun e w' => e = .returned (.int .i64 0) ∧ Below W.heap.size W w') := Lib.hid (fun W => byes (w := W) hx)
  have HO : Hid (∀ W : World, Calls Tryz.prog 7 #[.agg #[.int .i64 m, .int .i64 (s : Nat)]] W fun e w' => e = .returned (.agg #[.int .i64 m, .int .i64 (s : Nat)]) ∧ Below W.heap.size W w') := Lib.hid (fun W => of_any)
  have HO2 : Hid (∀ W : World, Calls Tryz.prog 7 #[.agg #[.int .i64 n, .int .i64 (t : Nat)]] W fun e w' => e = .returned (.agg #[.int .i64 n, .int .i64 (t : Nat)]) ∧ Below W.heap.size W w') := Lib.hid (fun W => of_any)
  have HG : Hid (∀ W : World, Calls Tryz.prog 8 #[.agg #[.int .i64 m, .int .i64 (s : Nat)], .agg #[.int .i64 n, .int .i64 (t : Nat)]] W fun e w' => e = .returned (.bool true) ∧ Below W.heap.size W w') := Lib.hid (fun W => goodT (w := W) hx.ck hy.ck)
  have HOa : Hid (∀ W : World, Calls Tryz.prog 7 #[.agg #[.int .i64 am, .int .i64 (az : Nat)]] W fun e w' => e = .returned (.agg #[.int .i64 am, .int .i64 (az : Nat)]) ∧ Below W.heap.size W w') := Lib.hid (fun W => of_any)
  have HOb : Hid (∀ W : World, Calls Tryz.prog 7 #[.agg #[.int .i64 bm, .int .i64 (bz : Nat)]] W fun e w' => e = .returned (.agg #[.int .i64 bm, .int .i64 (bz : Nat)]) ∧ Below W.heap.size W w') := Lib.hid (fun W => of_any)
  have HOc : Hid (∀ W : World, Calls Tryz.prog 7 #[.agg #[.int .i64 cm, .int .i64 (cz : Nat)]] W fun e w' => e = .returned (.agg #[.int .i64 cm, .int .i64 (cz : Nat)]) ∧ Below W.heap.size W w') := Lib.hid (fun W => of_any)
  have HOd : Hid (∀ W : World, Calls Tryz.prog 7 #[.agg #[.int .i64 dm, .int .i64 (dz : Nat)]] W fun e w' => e = .returned (.agg #[.int .i64 dm, .int .i64 (dz : Nat)]) ∧ Below W.heap.size W w') := Lib.hid (fun W => of_any)
  clear hx hy
  have HB : Hid (SB w 2 [((w.heap.size + 1), 23, #[.int .i64 n, .int .i64 (t : Nat)]), (w.heap.size, 23, #[.int .i64 m, .int .i64 (s : Nat)])] ((w.alloc (.cells #[.int .i64 m, .int .i64 (s : Nat)] 23)).alloc (.cells #[.int .i64 n, .int .i64 (t : Nat)] 23))) := Lib.hid ((sb1 w 23 _).push (by simp) 23 _)
  go_enter Tryz.func3, Tryz.ntmps3
  go_wp2_with fail
  refine (HK.out _).mono ?_
  rintro e w1 ⟨rfl, hb⟩
  have HB1 := Lib.hid (HB.out.call hb)
  clear hb HB
  have HB := HB1
  clear HB1
  go_wp2_with fail
  refine wp_region_phases (S := (S1 w 2 ([((w.heap.size + 1), 23, #[.int .i64 n, .int .i64 (t : Nat)]), (w.heap.size, 23, #[.int .i64 m, .int .i64 (s : Nat)])] : List (Nat × TypeId × Array Value)) ([((w.heap.size + 1), 23, #[.int .i64 n, .int .i64 (t : Nat)]), (w.heap.size, 23, #[.int .i64 m, .int .i64 (s : Nat)])] : List (Nat × TypeId × Array Value)))) (E := (fun _ _ => True)) [] [(2, Is (.pointer (some ⟨w.heap.size, 0, none⟩))), (3, Is (.pointer (some ⟨(w.heap.size + 1), 0, none⟩))), (4, Is (.bool false))] [(11, Is (.agg #[.int .i64 m, .int .i64 (s : Nat)])), (12, Is (.int .i64 0)), (13, Is (.agg #[.int .i64 m, .int .i64 (s : Nat)])), (14, Is (.agg #[.int .i64 m, .int .i64 (s : Nat)])), (15, Is (.int .i64 0)), (16, Is (.bool false))]
    [.op [2] none, .op [11] none, .op [2] none, .op [13] none, .op [14] none, .op [12, 15] none] (by as_aux_lemma => kernel_rfl) ?_ ?_ ?_ ?_ ?_ ⟨stable_is _ _, stable_is _ _, stable_is _ _, stable_is _ _, stable_is _ _, stable_is _ _, stable_is _ _, stable_is _ _, stable_is _ _, trivial⟩ ?_ (HB.out.drew) ?_ ?_
  · as_aux_lemma => kernel_rfl
  · as_aux_lemma => kernel_rfl
  · as_aux_lemma => kernel_rfl
  · as_aux_lemma => kernel_rfl
  · as_aux_lemma => kernel_rfl
  · exact ⟨rfl, rfl, rfl, trivial⟩
  · refine ⟨?_, ?_, ?_, ?_, ?_, ?_, trivial⟩
    · as_aux_lemma =>
        intro vals a W hS hL
        have e2 : a.tmps.getD 2 undef = .pointer (some ⟨w.heap.size, 0, none⟩) := hL.1
        clear hL
        have kb : Bk W w.heap.size 23 #[.int .i64 m, .int .i64 (s : Nat)] := hS.bk (.tail _ (.head _)) (.tail _ (.head _))
        have f0 := kb.cell 0
        have f1 := kb.cell 1
        clear kb
        go_simp
        exact ⟨⟨fun d hd => by injection hd with hd; subst hd; rfl, fun h => by cases h⟩, hS, trivial⟩
    · as_aux_lemma =>
        intro vals a W hS hL
        have e11 : a.tmps.getD 11 undef = .agg #[.int .i64 m, .int .i64 (s : Nat)] := hL.1
        clear hL
        go_simp
        refine (HC.out W).mono ?_
        rintro e W' ⟨rfl, hb⟩
        exact ⟨_, rfl, ⟨fun d hd => by injection hd with hd; subst hd; rfl, fun h => by cases h⟩, hS.call hb, trivial⟩
    · as_aux_lemma =>
        intro vals a W hS hL
        have e2 : a.tmps.getD 2 undef = .pointer (some ⟨w.heap.size, 0, none⟩) := hL.1
        clear hL
        have kb : Bk W w.heap.size 23 #[.int .i64 m, .int .i64 (s : Nat)] := hS.bk (.tail _ (.head _)) (.tail _ (.head _))
        have f0 := kb.cell 0
        have f1 := kb.cell 1
        clear kb
        go_simp
        exact ⟨⟨fun d hd => by injection hd with hd; subst hd; rfl, fun h => by cases h⟩, hS, trivial⟩
    · as_aux_lemma =>
        intro vals a W hS hL
        have e13 : a.tmps.getD 13 undef = .agg #[.int .i64 m, .int .i64 (s : Nat)] := hL.1
        clear hL
        go_simp
        refine (HO.out W).mono ?_
        rintro e W' ⟨rfl, hb⟩
        exact ⟨_, rfl, ⟨fun d hd => by injection hd with hd; subst hd; rfl, fun h => by cases h⟩, hS.call hb, trivial⟩
    · as_aux_lemma =>
        intro vals a W hS hL
        have e14 : a.tmps.getD 14 undef = .agg #[.int .i64 m, .int .i64 (s : Nat)] := hL.1
        clear hL
        go_simp
        refine (HCR.out W).mono ?_
        rintro e W' ⟨rfl, hb⟩
        exact ⟨_, rfl, ⟨fun d hd => by injection hd with hd; subst hd; rfl, fun h => by cases h⟩, hS.call hb, trivial⟩
    · as_aux_lemma =>
        intro vals a W hS hL
        have e12 : a.tmps.getD 12 undef = .int .i64 0 := hL.1
        have e15 : a.tmps.getD 15 undef = .int .i64 0 := hL.2.1
        clear hL
        go_simp
        exact ⟨⟨fun d hd => by injection hd with hd; subst hd; rfl, fun h => by cases h⟩, hS, trivial⟩
  · intro a W' vals hd hsz hT hF hv hP hS
    obtain rfl : vals = [] := List.eq_nil_of_length_eq_zero hv
    have hB : SB w 2 ([((w.heap.size + 1), 23, #[.int .i64 n, .int .i64 (t : Nat)]), (w.heap.size, 23, #[.int .i64 m, .int .i64 (s : Nat)])] : List (Nat × TypeId × Array Value)) W' := hS
    clear hS
    have e2 : a.tmps.getD 2 undef = .pointer (some ⟨w.heap.size, 0, none⟩) := hT 2 (by simp)
    have e3 : a.tmps.getD 3 undef = .pointer (some ⟨(w.heap.size + 1), 0, none⟩) := hT 3 (by simp)
    have e16 : a.tmps.getD 16 undef = .bool false := hT 16 (by simp)
    clear hT hF hP
    rw [act_lit 124 a hd hsz]
    simp only [List.range, List.range.loop, List.map, e2, e3, e16]
    clear e2 e3 e16
    clear hsz hd
    have HB2 := Lib.hid hB
    clear hB HB
    have HB := HB2
    clear HB2
    have q0 := HB.out.bk _ (List.mem_cons_self ..)
    have c00 := q0.cell 0
    have c01 := q0.cell 1
    clear q0
    have q1 := HB.out.bk _ (.tail _ (.head _))
    have c10 := q1.cell 0
    have c11 := q1.cell 1
    clear q1
    go_wp2_with fail
    refine (HG.out _).mono ?_
    rintro e w5 ⟨rfl, hb⟩
    clear c00 c01 c10 c11
    have HB5 := Lib.hid (HB.out.call hb)
    clear hb HB
    have HB := HB5
    clear HB5
    have q0 := HB.out.bk _ (List.mem_cons_self ..)
    have c00 := q0.cell 0
    have c01 := q0.cell 1
    clear q0
    have q1 := HB.out.bk _ (.tail _ (.head _))
    have c10 := q1.cell 0
    have c11 := q1.cell 1
    clear q1
    go_wp2_with fail
    refine (Ha.out _).mono ?_
    rintro e w6 ⟨rfl, hb⟩
    clear c00 c01 c10 c11
    have HB6 := Lib.hid (HB.out.call hb)
    clear hb HB
    have HB := HB6
    clear HB6
    have HB7 := Lib.hid (HB.out.alloc 23 #[.int .i64 am, .int .i64 (az : Nat)])
    have h5 := HB.out.size
    clear HB
    have hsz7 : (w6.alloc (.cells #[.int .i64 am, .int .i64 (az : Nat)] 23)).heap.size = w6.heap.size + 1 := by simp
    obtain ⟨N, hN⟩ : ∃ N, w.heap.size + N = w6.heap.size + 1 := ⟨w6.heap.size + 1 - w.heap.size, by omega⟩
    have HB : Hid (SB w N ((w6.heap.size, 23, #[.int .i64 am, .int .i64 (az : Nat)]) :: [((w.heap.size + 1), 23, #[.int .i64 n, .int .i64 (t : Nat)]), (w.heap.size, 23, #[.int .i64 m, .int .i64 (s : Nat)])]) (w6.alloc (.cells #[.int .i64 am, .int .i64 (az : Nat)] 23))) := Lib.hid (HB7.out.more (by rw [hsz7]; omega))
    clear HB7 hsz7
    go_wp2_with fail
    generalize (w6.alloc (.cells #[.int .i64 am, .int .i64 (az : Nat)] 23)) = w7 at *
    generalize w6.heap.size = g5 at *
    refine wp_region_phases (S := (S2 w N ([(g5, 23, #[.int .i64 am, .int .i64 (az : Nat)]), ((w.heap.size + 1), 23, #[.int .i64 n, .int .i64 (t : Nat)]), (w.heap.size, 23, #[.int .i64 m, .int .i64 (s : Nat)])] : List (Nat × TypeId × Array Value)) 28 #[.int .i64 0, .int .i64 0] #[.int .i64 am, .int .i64 (az : Nat)])) (E := (fun _ _ => True)) [8, 9] [(2, Is (.pointer (some ⟨w.heap.size, 0, none⟩))), (3, Is (.pointer (some ⟨(w.heap.size + 1), 0, none⟩))), (5, Is (.pointer (some ⟨g5, 0, none⟩))), (6, Is (.int .i64 (ae : Nat)))] [(28, Is (.agg #[.int .i64 m, .int .i64 (s : Nat)])), (29, Is (.agg #[.int .i64 m, .int .i64 (s : Nat)])), (30, Is (.agg #[.int .i64 n, .int .i64 (t : Nat)])), (31, Is (.agg #[.int .i64 n, .int .i64 (t : Nat)])), (32, Is (.tuple #[.agg #[.int .i64 am, .int .i64 (az : Nat)], .int .i64 (ae : Nat)])), (27, Is (.tuple #[.agg #[.int .i64 am, .int .i64 (az : Nat)], .int .i64 (ae : Nat)])), (33, Is (.agg #[.int .i64 am, .int .i64 (az : Nat)])), (34, Is (.int .i64 (ae : Nat))), (8, Is (.int .i64 (ae : Nat)))]
      [.op [2] none, .op [28] none, .op [3] none, .op [30] none, .op [29, 31] none, .op [32] none, .op [27] none, .op [27] none, .phase 0 [] [], .phase 1 [33] [(0, 7)], .op [34] none] (by as_aux_lemma => kernel_rfl) ?_ ?_ ?_ ?_ ?_ ⟨stable_is _ _, stable_is _ _, stable_is _ _, stable_is _ _, stable_is _ _, stable_is _ _, stable_is _ _, stable_is _ _, stable_is _ _, stable_is _ _, stable_is _ _, stable_is _ _, stable_is _ _, trivial⟩ ?_ (HB.out.drew) ?_ ?_
    · as_aux_lemma => kernel_rfl
    · as_aux_lemma => kernel_rfl
    · as_aux_lemma => kernel_rfl
    · as_aux_lemma => kernel_rfl
    · as_aux_lemma => kernel_rfl
    · exact ⟨rfl, rfl, rfl, rfl, trivial⟩
    · refine ⟨?_, ?_, ?_, ?_, ?_, ?_, ?_, ?_, ?_, ?_, ?_, trivial⟩
      · as_aux_lemma =>
          intro vals a W hS hL
          have e2 : a.tmps.getD 2 undef = .pointer (some ⟨w.heap.size, 0, none⟩) := hL.1
          clear hL
          have kb : Bk W w.heap.size 23 #[.int .i64 m, .int .i64 (s : Nat)] := hS.bk (.tail _ (.tail _ (.head _)))
          have f0 := kb.cell 0
          have f1 := kb.cell 1
          clear kb
          go_simp
          exact ⟨⟨fun d hd => by injection hd with hd; subst hd; rfl, fun h => by cases h⟩, hS, trivial⟩
      · as_aux_lemma =>
          intro vals a W hS hL
          have e28 : a.tmps.getD 28 undef = .agg #[.int .i64 m, .int .i64 (s : Nat)] := hL.1
          clear hL
          go_simp
          refine (HO.out W).mono ?_
          rintro e W' ⟨rfl, hb⟩
          exact ⟨_, rfl, ⟨fun d hd => by injection hd with hd; subst hd; rfl, fun h => by cases h⟩, hS.call hb, trivial⟩
      · as_aux_lemma =>
          intro vals a W hS hL
          have e3 : a.tmps.getD 3 undef = .pointer (some ⟨(w.heap.size + 1), 0, none⟩) := hL.1
          clear hL
          have kb : Bk W (w.heap.size + 1) 23 #[.int .i64 n, .int .i64 (t : Nat)] := hS.bk (.tail _ (.head _))
          have f0 := kb.cell 0
          have f1 := kb.cell 1
          clear kb
          go_simp
          exact ⟨⟨fun d hd => by injection hd with hd; subst hd; rfl, fun h => by cases h⟩, hS, trivial⟩
      · as_aux_lemma =>
          intro vals a W hS hL
          have e30 : a.tmps.getD 30 undef = .agg #[.int .i64 n, .int .i64 (t : Nat)] := hL.1
          clear hL
          go_simp
          refine (HO2.out W).mono ?_
          rintro e W' ⟨rfl, hb⟩
          exact ⟨_, rfl, ⟨fun d hd => by injection hd with hd; subst hd; rfl, fun h => by cases h⟩, hS.call hb, trivial⟩
      · as_aux_lemma =>
          intro vals a W hS hL
          have e29 : a.tmps.getD 29 undef = .agg #[.int .i64 m, .int .i64 (s : Nat)] := hL.1
          have e31 : a.tmps.getD 31 undef = .agg #[.int .i64 n, .int .i64 (t : Nat)] := hL.2.1
          clear hL
          go_simp
          refine (Ra.out W).mono ?_
          rintro e W' ⟨rfl, hb⟩
          exact ⟨_, rfl, ⟨fun d hd => by injection hd with hd; subst hd; rfl, fun h => by cases h⟩, hS.call hb, trivial⟩
      · as_aux_lemma =>
          intro vals a W hS hL
          have e32 : a.tmps.getD 32 undef = .tuple #[.agg #[.int .i64 am, .int .i64 (az : Nat)], .int .i64 (ae : Nat)] := hL.1
          clear hL
          go_simp
          exact ⟨⟨fun d hd => by injection hd with hd; subst hd; rfl, fun h => by cases h⟩, hS, trivial⟩
      · as_aux_lemma =>
          intro vals a W hS hL
          have e27 : a.tmps.getD 27 undef = .tuple #[.agg #[.int .i64 am, .int .i64 (az : Nat)], .int .i64 (ae : Nat)] := hL.1
          clear hL
          go_simp
          exact ⟨⟨fun d hd => by injection hd with hd; subst hd; rfl, fun h => by cases h⟩, hS, trivial⟩
      · as_aux_lemma =>
          intro vals a W hS hL
          have e27 : a.tmps.getD 27 undef = .tuple #[.agg #[.int .i64 am, .int .i64 (az : Nat)], .int .i64 (ae : Nat)] := hL.1
          clear hL
          go_simp
          exact ⟨⟨fun d hd => by injection hd with hd; subst hd; rfl, fun h => by cases h⟩, hS, trivial⟩
      · as_aux_lemma =>
          intro a W vals hv hS hL hp
          clear hL
          match vals, hv, hS with
          | [], _, hS =>
            have hB : SB w N ([(g5, 23, #[.int .i64 am, .int .i64 (az : Nat)]), ((w.heap.size + 1), 23, #[.int .i64 n, .int .i64 (t : Nat)]), (w.heap.size, 23, #[.int .i64 m, .int .i64 (s : Nat)])] : List (Nat × TypeId × Array Value)) W := hS
            have hF := hB.alloc 28 #[.int .i64 0, .int .i64 0]
            have hz := hB.size
            go_simp
            exact ⟨⟨_, rfl, hz, hF⟩, trivial, trivial⟩
      · as_aux_lemma =>
          intro a W vals hv hS hL hp
          have e33 : a.tmps.getD 33 undef = .agg #[.int .i64 am, .int .i64 (az : Nat)] := hL.1
          clear hL
          match vals, hv, hS with
          | [v], _, hS =>
            obtain ⟨g, rfl, hg, hB⟩ := hS
            have e7 := hp.1 (by simp)
            simp only [List.getElem?_cons_zero, Option.some.injEq] at e7
            have kz := hB.bk _ (List.mem_cons_self ..)
            have hlt : ∀ x ∈ ([(g5, 23, #[.int .i64 am, .int .i64 (az : Nat)]), ((w.heap.size + 1), 23, #[.int .i64 n, .int .i64 (t : Nat)]), (w.heap.size, 23, #[.int .i64 m, .int .i64 (s : Nat)])] : List (Nat × TypeId × Array Value)), x.1 ≠ g := by simp <;> omega
            have z0 := kz.frozen 0
            have q0 := kz.cell 0
            have z1 := kz.frozen 1
            have q1 := kz.cell 1
            have hF := hB.set2 (by omega) hlt (.int .i64 am : Value) (.int .i64 (az : Nat) : Value)
            rw [Array.getD_eq_getD_getElem?] at e33
            rw [Array.getD_eq_getD_getElem?] at e7
            have e7' := e7.symm
            clear e7
            clear hS kz hB
            go_simp
            exact ⟨⟨g, rfl, hg, hF⟩, trivial, trivial⟩
      · as_aux_lemma =>
          intro vals a W hS hL
          have e34 : a.tmps.getD 34 undef = .int .i64 (ae : Nat) := hL.1
          clear hL
          go_simp
          exact ⟨⟨fun d hd => by injection hd with hd; subst hd; rfl, fun h => by cases h⟩, hS, trivial⟩
    · intro a W' vals hd hsz hT hF hv hP hS
      obtain ⟨v0, v1, rfl⟩ : ∃ v0 v1, vals = [v0, v1] := by
        match vals, hv with
        | [x, y], _ => exact ⟨x, y, rfl⟩
      obtain ⟨g, hg0, hg, hB⟩ : ∃ g : Nat, v0 = .pointer (some ⟨g, 0, none⟩) ∧ w.heap.size + N ≤ g ∧ SB w N ([(g, 28, #[.int .i64 am, .int .i64 (az : Nat)]), (g5, 23, #[.int .i64 am, .int .i64 (az : Nat)]), ((w.heap.size + 1), 23, #[.int .i64 n, .int .i64 (t : Nat)]), (w.heap.size, 23, #[.int .i64 m, .int .i64 (s : Nat)])] : List (Nat × TypeId × Array Value)) W' := hS
      subst hg0
      have e7 : a.tmps.getD 7 undef = .pointer (some ⟨g, 0, none⟩) := by
        have := hP 0 8 _ 7 rfl (by simp) rfl rfl
        simpa using this.symm
      have e2 : a.tmps.getD 2 undef = .pointer (some ⟨w.heap.size, 0, none⟩) := hT 2 (by simp)
      have e3 : a.tmps.getD 3 undef = .pointer (some ⟨(w.heap.size + 1), 0, none⟩) := hT 3 (by simp)
      have e5 : a.tmps.getD 5 undef = .pointer (some ⟨g5, 0, none⟩) := hT 5 (by simp)
      have e6 : a.tmps.getD 6 undef = .int .i64 (ae : Nat) := hT 6 (by simp)
      have e8 : a.tmps.getD 8 undef = .int .i64 (ae : Nat) := hT 8 (by simp)
      clear hT hF hP
      rw [act_lit 124 a hd hsz]
      simp only [List.range, List.range.loop, List.map, e2, e3, e5, e6, e8, e7]
      clear e2 e3 e5 e6 e8 e7
      clear hsz hd
      have HB2 := Lib.hid hB
      clear hB HB
      have HB := HB2
      clear HB2
      go_wp2_with fail
      refine wp_region_phases (S := (S1 w N ([(g, 28, #[.int .i64 am, .int .i64 (az : Nat)]), (g5, 23, #[.int .i64 am, .int .i64 (az : Nat)]), ((w.heap.size + 1), 23, #[.int .i64 n, .int .i64 (t : Nat)]), (w.heap.size, 23, #[.int .i64 m, .int .i64 (s : Nat)])] : List (Nat × TypeId × Array Value)) ([(g, 28, #[.int .i64 am, .int .i64 (az : Nat)]), (g5, 23, #[.int .i64 am, .int .i64 (az : Nat)]), ((w.heap.size + 1), 23, #[.int .i64 n, .int .i64 (t : Nat)]), (w.heap.size, 23, #[.int .i64 m, .int .i64 (s : Nat)])] : List (Nat × TypeId × Array Value)))) (E := (fun _ _ => True)) [] [(2, Is (.pointer (some ⟨w.heap.size, 0, none⟩))), (3, Is (.pointer (some ⟨(w.heap.size + 1), 0, none⟩))), (5, Is (.pointer (some ⟨g5, 0, none⟩))), (6, Is (.int .i64 (ae : Nat))), (7, Is (.pointer (some ⟨g, 0, none⟩))), (8, Is (.int .i64 (ae : Nat)))] [(35, Is (.int .i64 (ae : Nat))), (36, Is (.int .i64 (ae : Nat))), (37, Is (.bool false)), (38, Is (.bool false)), (39, Is (.agg #[.int .i64 am, .int .i64 (az : Nat)])), (40, Is (.agg #[.int .i64 am, .int .i64 (az : Nat)])), (41, Is (.agg #[.int .i64 am, .int .i64 (az : Nat)])), (42, Is (.bool false)), (43, Is (.bool false))]
        [.op [6] none, .op [8] none, .op [35, 36] none, .op [37] none, .op [5, 38] (some (38, false)), .op [39, 38] (some (38, false)), .op [7, 38] (some (38, false)), .op [40, 41, 38] (some (38, false)), .op [38, 42] none] (by as_aux_lemma => kernel_rfl) ?_ ?_ ?_ ?_ ?_ ⟨stable_is _ _, stable_is _ _, stable_is _ _, stable_is _ _, stable_is _ _, stable_is _ _, stable_is _ _, stable_is _ _, stable_is _ _, stable_is _ _, stable_is _ _, stable_is _ _, stable_is _ _, stable_is _ _, stable_is _ _, trivial⟩ ?_ (HB.out.drew) ?_ ?_
      · as_aux_lemma => kernel_rfl
      · as_aux_lemma => kernel_rfl
      · as_aux_lemma => kernel_rfl
      · as_aux_lemma => kernel_rfl
      · as_aux_lemma => kernel_rfl
      · exact ⟨rfl, rfl, rfl, rfl, rfl, rfl, trivial⟩
      · refine ⟨?_, ?_, ?_, ?_, ?_, ?_, ?_, ?_, ?_, trivial⟩
        · as_aux_lemma =>
            intro vals a W hS hL
            have e6 : a.tmps.getD 6 undef = .int .i64 (ae : Nat) := hL.1
            clear hL
            go_simp
            exact ⟨⟨fun d hd => by injection hd with hd; subst hd; rfl, fun h => by cases h⟩, hS, trivial⟩
        · as_aux_lemma =>
            intro vals a W hS hL
            have e8 : a.tmps.getD 8 undef = .int .i64 (ae : Nat) := hL.1
            clear hL
            go_simp
            exact ⟨⟨fun d hd => by injection hd with hd; subst hd; rfl, fun h => by cases h⟩, hS, trivial⟩
        · as_aux_lemma =>
            intro vals a W hS hL
            have e35 : a.tmps.getD 35 undef = .int .i64 (ae : Nat) := hL.1
            have e36 : a.tmps.getD 36 undef = .int .i64 (ae : Nat) := hL.2.1
            clear hL
            go_simp
            exact ⟨⟨fun d hd => by injection hd with hd; subst hd; rfl, fun h => by cases h⟩, hS, trivial⟩
        · as_aux_lemma =>
            intro vals a W hS hL
            have e37 : a.tmps.getD 37 undef = .bool false := hL.1
            clear hL
            go_simp
            exact ⟨⟨fun d hd => by injection hd with hd; subst hd; rfl, fun h => by cases h⟩, hS, trivial⟩
        · as_aux_lemma =>
            intro vals a W hS hL
            have e5 : a.tmps.getD 5 undef = .pointer (some ⟨g5, 0, none⟩) := hL.1
            have e38 : a.tmps.getD 38 undef = .bool false := hL.2.1
            clear hL
            refine ⟨false, e38, ?_⟩
            rw [if_pos rfl]
            have kb : Bk W g5 23 #[.int .i64 am, .int .i64 (az : Nat)] := hS.bk (.tail _ (.head _)) (.tail _ (.head _))
            have f0 := kb.cell 0
            have f1 := kb.cell 1
            clear kb
            go_simp
            exact ⟨⟨fun d hd => by injection hd with hd; subst hd; rfl, fun h => by cases h⟩, hS, trivial⟩
        · as_aux_lemma =>
            intro vals a W hS hL
            have e39 : a.tmps.getD 39 undef = .agg #[.int .i64 am, .int .i64 (az : Nat)] := hL.1
            have e38 : a.tmps.getD 38 undef = .bool false := hL.2.1
            clear hL
            refine ⟨false, e38, ?_⟩
            rw [if_pos rfl]
            go_simp
            refine (HOa.out W).mono ?_
            rintro e W' ⟨rfl, hb⟩
            exact ⟨_, rfl, ⟨fun d hd => by injection hd with hd; subst hd; rfl, fun h => by cases h⟩, hS.call hb, trivial⟩
        · as_aux_lemma =>
            intro vals a W hS hL
            have e7 : a.tmps.getD 7 undef = .pointer (some ⟨g, 0, none⟩) := hL.1
            have e38 : a.tmps.getD 38 undef = .bool false := hL.2.1
            clear hL
            refine ⟨false, e38, ?_⟩
            rw [if_pos rfl]
            have kb : Bk W g 28 #[.int .i64 am, .int .i64 (az : Nat)] := hS.bk (.head _) (.head _)
            have f0 := kb.cell 0
            have f1 := kb.cell 1
            clear kb
            go_simp
            exact ⟨⟨fun d hd => by injection hd with hd; subst hd; rfl, fun h => by cases h⟩, hS, trivial⟩
        · as_aux_lemma =>
            intro vals a W hS hL
            have e40 : a.tmps.getD 40 undef = .agg #[.int .i64 am, .int .i64 (az : Nat)] := hL.1
            have e41 : a.tmps.getD 41 undef = .agg #[.int .i64 am, .int .i64 (az : Nat)] := hL.2.1
            have e38 : a.tmps.getD 38 undef = .bool false := hL.2.2.1
            clear hL
            refine ⟨false, e38, ?_⟩
            rw [if_pos rfl]
            go_simp
            exact ⟨⟨fun d hd => by injection hd with hd; subst hd; rfl, fun h => by cases h⟩, hS, trivial⟩
        · as_aux_lemma =>
            intro vals a W hS hL
            have e38 : a.tmps.getD 38 undef = .bool false := hL.1
            have e42 : a.tmps.getD 42 undef = .bool false := hL.2.1
            clear hL
            go_simp
            exact ⟨⟨fun d hd => by injection hd with hd; subst hd; rfl, fun h => by cases h⟩, hS, trivial⟩
      · intro a W' vals hd hsz hT hF hv hP hS
        obtain rfl : vals = [] := List.eq_nil_of_length_eq_zero hv
        have hB : SB w N ([(g, 28, #[.int .i64 am, .int .i64 (az : Nat)]), (g5, 23, #[.int .i64 am, .int .i64 (az : Nat)]), ((w.heap.size + 1), 23, #[.int .i64 n, .int .i64 (t : Nat)]), (w.heap.size, 23, #[.int .i64 m, .int .i64 (s : Nat)])] : List (Nat × TypeId × Array Value)) W' := hS
        clear hS
        have e2 : a.tmps.getD 2 undef = .pointer (some ⟨w.heap.size, 0, none⟩) := hT 2 (by simp)
        have e3 : a.tmps.getD 3 undef = .pointer (some ⟨(w.heap.size + 1), 0, none⟩) := hT 3 (by simp)
        have e5 : a.tmps.getD 5 undef = .pointer (some ⟨g5, 0, none⟩) := hT 5 (by simp)
        have e6 : a.tmps.getD 6 undef = .int .i64 (ae : Nat) := hT 6 (by simp)
        have e7 : a.tmps.getD 7 undef = .pointer (some ⟨g, 0, none⟩) := hT 7 (by simp)
        have e8 : a.tmps.getD 8 undef = .int .i64 (ae : Nat) := hT 8 (by simp)
        have e43 : a.tmps.getD 43 undef = .bool false := hT 43 (by simp)
        clear hT hF hP
        rw [act_lit 124 a hd hsz]
        simp only [List.range, List.range.loop, List.map, e2, e3, e5, e6, e7, e8, e43]
        clear e2 e3 e5 e6 e7 e8 e43
        clear hsz hd
        have HB2 := Lib.hid hB
        clear hB HB
        have HB := HB2
        clear HB2
        have q2 := HB.out.bk _ (.tail _ (.tail _ (.head _)))
        have c20 := q2.cell 0
        have c21 := q2.cell 1
        clear q2
        have q3 := HB.out.bk _ (.tail _ (.tail _ (.tail _ (.head _))))
        have c30 := q3.cell 0
        have c31 := q3.cell 1
        clear q3
        go_wp2_with fail
        refine (Hb.out _).mono ?_
        rintro e w21 ⟨rfl, hb⟩
        clear c20 c21 c30 c31
        have HB21 := Lib.hid (HB.out.call hb)
        clear hb HB
        have HB := HB21
        clear HB21
        have q1 := HB.out.bk _ (.tail _ (.head _))
        have c10 := q1.cell 0
        have c11 := q1.cell 1
        have z10 := q1.frozen 0
        have z11 := q1.frozen 1
        clear q1
        have HB21 := Lib.hid ((HB.out.turn.set2 (by omega) (by simp <;> omega) (.int .i64 bm) (.int .i64 (bz : Nat))).turn)
        clear HB
        have HB := HB21
        clear HB21
        go_wp2_with fail
        clear c10 c11 z10 z11
        generalize ((w21.setCell ⟨g5, 0, none⟩ (.int .i64 bm)).setCell ⟨g5, 1, none⟩ (.int .i64 (bz : Nat))) = w21x at *
        refine wp_region_phases (S := (S1 w N ([(g, 28, #[.int .i64 am, .int .i64 (az : Nat)]), (g5, 23, #[.int .i64 bm, .int .i64 (bz : Nat)]), ((w.heap.size + 1), 23, #[.int .i64 n, .int .i64 (t : Nat)]), (w.heap.size, 23, #[.int .i64 m, .int .i64 (s : Nat)])] : List (Nat × TypeId × Array Value)) ([(g, 28, #[.int .i64 bm, .int .i64 (bz : Nat)]), (g5, 23, #[.int .i64 bm, .int .i64 (bz : Nat)]), ((w.heap.size + 1), 23, #[.int .i64 n, .int .i64 (t : Nat)]), (w.heap.size, 23, #[.int .i64 m, .int .i64 (s : Nat)])] : List (Nat × TypeId × Array Value)))) (E := (fun _ _ => True)) [8] [(2, Is (.pointer (some ⟨w.heap.size, 0, none⟩))), (3, Is (.pointer (some ⟨(w.heap.size + 1), 0, none⟩))), (5, Is (.pointer (some ⟨g5, 0, none⟩))), (6, Is (.int .i64 (be : Nat))), (7, Is (.pointer (some ⟨g, 0, none⟩)))] [(51, Is (.agg #[.int .i64 m, .int .i64 (s : Nat)])), (52, Is (.agg #[.int .i64 m, .int .i64 (s : Nat)])), (53, Is (.agg #[.int .i64 n, .int .i64 (t : Nat)])), (54, Is (.agg #[.int .i64 n, .int .i64 (t : Nat)])), (55, Is (.tuple #[.agg #[.int .i64 bm, .int .i64 (bz : Nat)], .int .i64 (be : Nat)])), (50, Is (.tuple #[.agg #[.int .i64 bm, .int .i64 (bz : Nat)], .int .i64 (be : Nat)])), (56, Is (.agg #[.int .i64 bm, .int .i64 (bz : Nat)])), (57, Is (.int .i64 (be : Nat))), (8, Is (.int .i64 (be : Nat)))]
          [.op [2] none, .op [51] none, .op [3] none, .op [53] none, .op [52, 54] none, .op [55] none, .op [50] none, .op [50] none, .phase 0 [7, 56] [], .op [57] none] (by as_aux_lemma => kernel_rfl) ?_ ?_ ?_ ?_ ?_ ⟨stable_is _ _, stable_is _ _, stable_is _ _, stable_is _ _, stable_is _ _, stable_is _ _, stable_is _ _, stable_is _ _, stable_is _ _, stable_is _ _, stable_is _ _, stable_is _ _, stable_is _ _, stable_is _ _, trivial⟩ ?_ (HB.out.drew) ?_ ?_
        · as_aux_lemma => kernel_rfl
        · as_aux_lemma => kernel_rfl
        · as_aux_lemma => kernel_rfl
        · as_aux_lemma => kernel_rfl
        · as_aux_lemma => kernel_rfl
        · exact ⟨rfl, rfl, rfl, rfl, rfl, trivial⟩
        · refine ⟨?_, ?_, ?_, ?_, ?_, ?_, ?_, ?_, ?_, ?_, trivial⟩
          · as_aux_lemma =>
              intro vals a W hS hL
              have e2 : a.tmps.getD 2 undef = .pointer (some ⟨w.heap.size, 0, none⟩) := hL.1
              clear hL
              have kb : Bk W w.heap.size 23 #[.int .i64 m, .int .i64 (s : Nat)] := hS.bk (.tail _ (.tail _ (.tail _ (.head _)))) (.tail _ (.tail _ (.tail _ (.head _))))
              have f0 := kb.cell 0
              have f1 := kb.cell 1
              clear kb
              go_simp
              exact ⟨⟨fun d hd => by injection hd with hd; subst hd; rfl, fun h => by cases h⟩, hS, trivial⟩
          · as_aux_lemma =>
              intro vals a W hS hL
              have e51 : a.tmps.getD 51 undef = .agg #[.int .i64 m, .int .i64 (s : Nat)] := hL.1
              clear hL
              go_simp
              refine (HO.out W).mono ?_
              rintro e W' ⟨rfl, hb⟩
              exact ⟨_, rfl, ⟨fun d hd => by injection hd with hd; subst hd; rfl, fun h => by cases h⟩, hS.call hb, trivial⟩
          · as_aux_lemma =>
              intro vals a W hS hL
              have e3 : a.tmps.getD 3 undef = .pointer (some ⟨(w.heap.size + 1), 0, none⟩) := hL.1
              clear hL
              have kb : Bk W (w.heap.size + 1) 23 #[.int .i64 n, .int .i64 (t : Nat)] := hS.bk (.tail _ (.tail _ (.head _))) (.tail _ (.tail _ (.head _)))
              have f0 := kb.cell 0
              have f1 := kb.cell 1
              clear kb
              go_simp
              exact ⟨⟨fun d hd => by injection hd with hd; subst hd; rfl, fun h => by cases h⟩, hS, trivial⟩
          · as_aux_lemma =>
              intro vals a W hS hL
              have e53 : a.tmps.getD 53 undef = .agg #[.int .i64 n, .int .i64 (t : Nat)] := hL.1
              clear hL
              go_simp
              refine (HO2.out W).mono ?_
              rintro e W' ⟨rfl, hb⟩
              exact ⟨_, rfl, ⟨fun d hd => by injection hd with hd; subst hd; rfl, fun h => by cases h⟩, hS.call hb, trivial⟩
          · as_aux_lemma =>
              intro vals a W hS hL
              have e52 : a.tmps.getD 52 undef = .agg #[.int .i64 m, .int .i64 (s : Nat)] := hL.1
              have e54 : a.tmps.getD 54 undef = .agg #[.int .i64 n, .int .i64 (t : Nat)] := hL.2.1
              clear hL
              go_simp
              refine (Rb.out W).mono ?_
              rintro e W' ⟨rfl, hb⟩
              exact ⟨_, rfl, ⟨fun d hd => by injection hd with hd; subst hd; rfl, fun h => by cases h⟩, hS.call hb, trivial⟩
          · as_aux_lemma =>
              intro vals a W hS hL
              have e55 : a.tmps.getD 55 undef = .tuple #[.agg #[.int .i64 bm, .int .i64 (bz : Nat)], .int .i64 (be : Nat)] := hL.1
              clear hL
              go_simp
              exact ⟨⟨fun d hd => by injection hd with hd; subst hd; rfl, fun h => by cases h⟩, hS, trivial⟩
          · as_aux_lemma =>
              intro vals a W hS hL
              have e50 : a.tmps.getD 50 undef = .tuple #[.agg #[.int .i64 bm, .int .i64 (bz : Nat)], .int .i64 (be : Nat)] := hL.1
              clear hL
              go_simp
              exact ⟨⟨fun d hd => by injection hd with hd; subst hd; rfl, fun h => by cases h⟩, hS, trivial⟩
          · as_aux_lemma =>
              intro vals a W hS hL
              have e50 : a.tmps.getD 50 undef = .tuple #[.agg #[.int .i64 bm, .int .i64 (bz : Nat)], .int .i64 (be : Nat)] := hL.1
              clear hL
              go_simp
              exact ⟨⟨fun d hd => by injection hd with hd; subst hd; rfl, fun h => by cases h⟩, hS, trivial⟩
          · as_aux_lemma =>
              intro a W vals hv hS hL hp
              have e7 : a.tmps.getD 7 undef = .pointer (some ⟨g, 0, none⟩) := hL.1
              have e56 : a.tmps.getD 56 undef = .agg #[.int .i64 bm, .int .i64 (bz : Nat)] := hL.2.1
              clear hL
              match vals, hv, hS with
              | [], _, hS =>
                have hB : SB w N ([(g, 28, #[.int .i64 am, .int .i64 (az : Nat)]), (g5, 23, #[.int .i64 bm, .int .i64 (bz : Nat)]), ((w.heap.size + 1), 23, #[.int .i64 n, .int .i64 (t : Nat)]), (w.heap.size, 23, #[.int .i64 m, .int .i64 (s : Nat)])] : List (Nat × TypeId × Array Value)) W := hS
                have kz := hB.bk _ (List.mem_cons_self ..)
                have hlt : ∀ x ∈ ([(g5, 23, #[.int .i64 bm, .int .i64 (bz : Nat)]), ((w.heap.size + 1), 23, #[.int .i64 n, .int .i64 (t : Nat)]), (w.heap.size, 23, #[.int .i64 m, .int .i64 (s : Nat)])] : List (Nat × TypeId × Array Value)), x.1 ≠ g := by simp <;> omega
                have z0 := kz.frozen 0
                have q0 := kz.cell 0
                have z1 := kz.frozen 1
                have q1 := kz.cell 1
                have hF := hB.set2 (by omega) hlt (.int .i64 bm : Value) (.int .i64 (bz : Nat) : Value)
                rw [Array.getD_eq_getD_getElem?] at e56
                clear hS kz hB
                go_simp
                exact ⟨hF, trivial, trivial⟩
          · as_aux_lemma =>
              intro vals a W hS hL
              have e57 : a.tmps.getD 57 undef = .int .i64 (be : Nat) := hL.1
              clear hL
              go_simp
              exact ⟨⟨fun d hd => by injection hd with hd; subst hd; rfl, fun h => by cases h⟩, hS, trivial⟩
        · intro a W' vals hd hsz hT hF hv hP hS
          obtain ⟨u, rfl⟩ : ∃ u, vals = [u] := by
            match vals, hv with
            | [u], _ => exact ⟨u, rfl⟩
          have hB : SB w N ([(g, 28, #[.int .i64 bm, .int .i64 (bz : Nat)]), (g5, 23, #[.int .i64 bm, .int .i64 (bz : Nat)]), ((w.heap.size + 1), 23, #[.int .i64 n, .int .i64 (t : Nat)]), (w.heap.size, 23, #[.int .i64 m, .int .i64 (s : Nat)])] : List (Nat × TypeId × Array Value)) W' := hS
          clear hS
          have e2 : a.tmps.getD 2 undef = .pointer (some ⟨w.heap.size, 0, none⟩) := hT 2 (by simp)
          have e3 : a.tmps.getD 3 undef = .pointer (some ⟨(w.heap.size + 1), 0, none⟩) := hT 3 (by simp)
          have e5 : a.tmps.getD 5 undef = .pointer (some ⟨g5, 0, none⟩) := hT 5 (by simp)
          have e6 : a.tmps.getD 6 undef = .int .i64 (be : Nat) := hT 6 (by simp)
          have e7 : a.tmps.getD 7 undef = .pointer (some ⟨g, 0, none⟩) := hT 7 (by simp)
          have e8 : a.tmps.getD 8 undef = .int .i64 (be : Nat) := hT 8 (by simp)
          clear hT hF hP
          rw [act_lit 124 a hd hsz]
          simp only [List.range, List.range.loop, List.map, e2, e3, e5, e6, e7, e8]
          clear e2 e3 e5 e6 e7 e8
          clear hsz hd
          have HB2 := Lib.hid hB
          clear hB HB
          have HB := HB2
          clear HB2
          go_wp2_with fail
          refine wp_region_phases (S := (S1 w N ([(g, 28, #[.int .i64 bm, .int .i64 (bz : Nat)]), (g5, 23, #[.int .i64 bm, .int .i64 (bz : Nat)]), ((w.heap.size + 1), 23, #[.int .i64 n, .int .i64 (t : Nat)]), (w.heap.size, 23, #[.int .i64 m, .int .i64 (s : Nat)])] : List (Nat × TypeId × Array Value)) ([(g, 28, #[.int .i64 bm, .int .i64 (bz : Nat)]), (g5, 23, #[.int .i64 bm, .int .i64 (bz : Nat)]), ((w.heap.size + 1), 23, #[.int .i64 n, .int .i64 (t : Nat)]), (w.heap.size, 23, #[.int .i64 m, .int .i64 (s : Nat)])] : List (Nat × TypeId × Array Value)))) (E := (fun _ _ => True)) [] [(2, Is (.pointer (some ⟨w.heap.size, 0, none⟩))), (3, Is (.pointer (some ⟨(w.heap.size + 1), 0, none⟩))), (5, Is (.pointer (some ⟨g5, 0, none⟩))), (6, Is (.int .i64 (be : Nat))), (7, Is (.pointer (some ⟨g, 0, none⟩))), (8, Is (.int .i64 (be : Nat)))] [(58, Is (.int .i64 (be : Nat))), (59, Is (.int .i64 (be : Nat))), (60, Is (.bool false)), (61, Is (.bool false)), (62, Is (.agg #[.int .i64 bm, .int .i64 (bz : Nat)])), (63, Is (.agg #[.int .i64 bm, .int .i64 (bz : Nat)])), (64, Is (.agg #[.int .i64 bm, .int .i64 (bz : Nat)])), (65, Is (.bool false)), (66, Is (.bool false))]
            [.op [6] none, .op [8] none, .op [58, 59] none, .op [60] none, .op [5, 61] (some (61, false)), .op [62, 61] (some (61, false)), .op [7, 61] (some (61, false)), .op [63, 64, 61] (some (61, false)), .op [61, 65] none] (by as_aux_lemma => kernel_rfl) ?_ ?_ ?_ ?_ ?_ ⟨stable_is _ _, stable_is _ _, stable_is _ _, stable_is _ _, stable_is _ _, stable_is _ _, stable_is _ _, stable_is _ _, stable_is _ _, stable_is _ _, stable_is _ _, stable_is _ _, stable_is _ _, stable_is _ _, stable_is _ _, trivial⟩ ?_ (HB.out.drew) ?_ ?_
          · as_aux_lemma => kernel_rfl
          · as_aux_lemma => kernel_rfl
          · as_aux_lemma => kernel_rfl
          · as_aux_lemma => kernel_rfl
          · as_aux_lemma => kernel_rfl
          · exact ⟨rfl, rfl, rfl, rfl, rfl, rfl, trivial⟩
          · refine ⟨?_, ?_, ?_, ?_, ?_, ?_, ?_, ?_, ?_, trivial⟩
            · as_aux_lemma =>
                intro vals a W hS hL
                have e6 : a.tmps.getD 6 undef = .int .i64 (be : Nat) := hL.1
                clear hL
                go_simp
                exact ⟨⟨fun d hd => by injection hd with hd; subst hd; rfl, fun h => by cases h⟩, hS, trivial⟩
            · as_aux_lemma =>
                intro vals a W hS hL
                have e8 : a.tmps.getD 8 undef = .int .i64 (be : Nat) := hL.1
                clear hL
                go_simp
                exact ⟨⟨fun d hd => by injection hd with hd; subst hd; rfl, fun h => by cases h⟩, hS, trivial⟩
            · as_aux_lemma =>
                intro vals a W hS hL
                have e58 : a.tmps.getD 58 undef = .int .i64 (be : Nat) := hL.1
                have e59 : a.tmps.getD 59 undef = .int .i64 (be : Nat) := hL.2.1
                clear hL
                go_simp
                exact ⟨⟨fun d hd => by injection hd with hd; subst hd; rfl, fun h => by cases h⟩, hS, trivial⟩
            · as_aux_lemma =>
                intro vals a W hS hL
                have e60 : a.tmps.getD 60 undef = .bool false := hL.1
                clear hL
                go_simp
                exact ⟨⟨fun d hd => by injection hd with hd; subst hd; rfl, fun h => by cases h⟩, hS, trivial⟩
            · as_aux_lemma =>
                intro vals a W hS hL
                have e5 : a.tmps.getD 5 undef = .pointer (some ⟨g5, 0, none⟩) := hL.1
                have e61 : a.tmps.getD 61 undef = .bool false := hL.2.1
                clear hL
                refine ⟨false, e61, ?_⟩
                rw [if_pos rfl]
                have kb : Bk W g5 23 #[.int .i64 bm, .int .i64 (bz : Nat)] := hS.bk (.tail _ (.head _)) (.tail _ (.head _))
                have f0 := kb.cell 0
                have f1 := kb.cell 1
                clear kb
                go_simp
                exact ⟨⟨fun d hd => by injection hd with hd; subst hd; rfl, fun h => by cases h⟩, hS, trivial⟩
            · as_aux_lemma =>
                intro vals a W hS hL
                have e62 : a.tmps.getD 62 undef = .agg #[.int .i64 bm, .int .i64 (bz : Nat)] := hL.1
                have e61 : a.tmps.getD 61 undef = .bool false := hL.2.1
                clear hL
                refine ⟨false, e61, ?_⟩
                rw [if_pos rfl]
                go_simp
                refine (HOb.out W).mono ?_
                rintro e W' ⟨rfl, hb⟩
                exact ⟨_, rfl, ⟨fun d hd => by injection hd with hd; subst hd; rfl, fun h => by cases h⟩, hS.call hb, trivial⟩
            · as_aux_lemma =>
                intro vals a W hS hL
                have e7 : a.tmps.getD 7 undef = .pointer (some ⟨g, 0, none⟩) := hL.1
                have e61 : a.tmps.getD 61 undef = .bool false := hL.2.1
                clear hL
                refine ⟨false, e61, ?_⟩
                rw [if_pos rfl]
                have kb : Bk W g 28 #[.int .i64 bm, .int .i64 (bz : Nat)] := hS.bk (.head _) (.head _)
                have f0 := kb.cell 0
                have f1 := kb.cell 1
                clear kb
                go_simp
                exact ⟨⟨fun d hd => by injection hd with hd; subst hd; rfl, fun h => by cases h⟩, hS, trivial⟩
            · as_aux_lemma =>
                intro vals a W hS hL
                have e63 : a.tmps.getD 63 undef = .agg #[.int .i64 bm, .int .i64 (bz : Nat)] := hL.1
                have e64 : a.tmps.getD 64 undef = .agg #[.int .i64 bm, .int .i64 (bz : Nat)] := hL.2.1
                have e61 : a.tmps.getD 61 undef = .bool false := hL.2.2.1
                clear hL
                refine ⟨false, e61, ?_⟩
                rw [if_pos rfl]
                go_simp
                exact ⟨⟨fun d hd => by injection hd with hd; subst hd; rfl, fun h => by cases h⟩, hS, trivial⟩
            · as_aux_lemma =>
                intro vals a W hS hL
                have e61 : a.tmps.getD 61 undef = .bool false := hL.1
                have e65 : a.tmps.getD 65 undef = .bool false := hL.2.1
                clear hL
                go_simp
                exact ⟨⟨fun d hd => by injection hd with hd; subst hd; rfl, fun h => by cases h⟩, hS, trivial⟩
          · intro a W' vals hd hsz hT hF hv hP hS
            obtain rfl : vals = [] := List.eq_nil_of_length_eq_zero hv
            have hB : SB w N ([(g, 28, #[.int .i64 bm, .int .i64 (bz : Nat)]), (g5, 23, #[.int .i64 bm, .int .i64 (bz : Nat)]), ((w.heap.size + 1), 23, #[.int .i64 n, .int .i64 (t : Nat)]), (w.heap.size, 23, #[.int .i64 m, .int .i64 (s : Nat)])] : List (Nat × TypeId × Array Value)) W' := hS
            clear hS
            have e2 : a.tmps.getD 2 undef = .pointer (some ⟨w.heap.size, 0, none⟩) := hT 2 (by simp)
            have e3 : a.tmps.getD 3 undef = .pointer (some ⟨(w.heap.size + 1), 0, none⟩) := hT 3 (by simp)
            have e5 : a.tmps.getD 5 undef = .pointer (some ⟨g5, 0, none⟩) := hT 5 (by simp)
            have e6 : a.tmps.getD 6 undef = .int .i64 (be : Nat) := hT 6 (by simp)
            have e7 : a.tmps.getD 7 undef = .pointer (some ⟨g, 0, none⟩) := hT 7 (by simp)
            have e8 : a.tmps.getD 8 undef = .int .i64 (be : Nat) := hT 8 (by simp)
            have e66 : a.tmps.getD 66 undef = .bool false := hT 66 (by simp)
            clear hT hF hP
            rw [act_lit 124 a hd hsz]
            simp only [List.range, List.range.loop, List.map, e2, e3, e5, e6, e7, e8, e66]
            clear e2 e3 e5 e6 e7 e8 e66
            clear hsz hd
            have HB2 := Lib.hid hB
            clear hB HB
            have HB := HB2
            clear HB2
            have q2 := HB.out.bk _ (.tail _ (.tail _ (.head _)))
            have c20 := q2.cell 0
            have c21 := q2.cell 1
            clear q2
            have q3 := HB.out.bk _ (.tail _ (.tail _ (.tail _ (.head _))))
            have c30 := q3.cell 0
            have c31 := q3.cell 1
            clear q3
            go_wp2_with fail
            refine (Hc.out _).mono ?_
            rintro e w22 ⟨rfl, hb⟩
            clear c20 c21 c30 c31
            have HB22 := Lib.hid (HB.out.call hb)
            clear hb HB
            have HB := HB22
            clear HB22
            have q1 := HB.out.bk _ (.tail _ (.head _))
            have c10 := q1.cell 0
            have c11 := q1.cell 1
            have z10 := q1.frozen 0
            have z11 := q1.frozen 1
            clear q1
            have HB22 := Lib.hid ((HB.out.turn.set2 (by omega) (by simp <;> omega) (.int .i64 cm) (.int .i64 (cz : Nat))).turn)
            clear HB
            have HB := HB22
            clear HB22
            go_wp2_with fail
            clear c10 c11 z10 z11
            generalize ((w22.setCell ⟨g5, 0, none⟩ (.int .i64 cm)).setCell ⟨g5, 1, none⟩ (.int .i64 (cz : Nat))) = w22x at *
            refine wp_region_phases (S := (S1 w N ([(g, 28, #[.int .i64 bm, .int .i64 (bz : Nat)]), (g5, 23, #[.int .i64 cm, .int .i64 (cz : Nat)]), ((w.heap.size + 1), 23, #[.int .i64 n, .int .i64 (t : Nat)]), (w.heap.size, 23, #[.int .i64 m, .int .i64 (s : Nat)])] : List (Nat × TypeId × Array Value)) ([(g, 28, #[.int .i64 cm, .int .i64 (cz : Nat)]), (g5, 23, #[.int .i64 cm, .int .i64 (cz : Nat)]), ((w.heap.size + 1), 23, #[.int .i64 n, .int .i64 (t : Nat)]), (w.heap.size, 23, #[.int .i64 m, .int .i64 (s : Nat)])] : List (Nat × TypeId × Array Value)))) (E := (fun _ _ => True)) [8] [(2, Is (.pointer (some ⟨w.heap.size, 0, none⟩))), (3, Is (.pointer (some ⟨(w.heap.size + 1), 0, none⟩))), (5, Is (.pointer (some ⟨g5, 0, none⟩))), (6, Is (.int .i64 (ce : Nat))), (7, Is (.pointer (some ⟨g, 0, none⟩)))] [(74, Is (.agg #[.int .i64 m, .int .i64 (s : Nat)])), (75, Is (.agg #[.int .i64 m, .int .i64 (s : Nat)])), (76, Is (.agg #[.int .i64 n, .int .i64 (t : Nat)])), (77, Is (.agg #[.int .i64 n, .int .i64 (t : Nat)])), (78, Is (.tuple #[.agg #[.int .i64 cm, .int .i64 (cz : Nat)], .int .i64 (ce : Nat)])), (73, Is (.tuple #[.agg #[.int .i64 cm, .int .i64 (cz : Nat)], .int .i64 (ce : Nat)])), (79, Is (.agg #[.int .i64 cm, .int .i64 (cz : Nat)])), (80, Is (.int .i64 (ce : Nat))), (8, Is (.int .i64 (ce : Nat)))]
              [.op [2] none, .op [74] none, .op [3] none, .op [76] none, .op [75, 77] none, .op [78] none, .op [73] none, .op [73] none, .phase 0 [7, 79] [], .op [80] none] (by as_aux_lemma => kernel_rfl) ?_ ?_ ?_ ?_ ?_ ⟨stable_is _ _, stable_is _ _, stable_is _ _, stable_is _ _, stable_is _ _, stable_is _ _, stable_is _ _, stable_is _ _, stable_is _ _, stable_is _ _, stable_is _ _, stable_is _ _, stable_is _ _, stable_is _ _, trivial⟩ ?_ (HB.out.drew) ?_ ?_
            · as_aux_lemma => kernel_rfl
            · as_aux_lemma => kernel_rfl
            · as_aux_lemma => kernel_rfl
            · as_aux_lemma => kernel_rfl
            · as_aux_lemma => kernel_rfl
            · exact ⟨rfl, rfl, rfl, rfl, rfl, trivial⟩
            · refine ⟨?_, ?_, ?_, ?_, ?_, ?_, ?_, ?_, ?_, ?_, trivial⟩
              · as_aux_lemma =>
                  intro vals a W hS hL
                  have e2 : a.tmps.getD 2 undef = .pointer (some ⟨w.heap.size, 0, none⟩) := hL.1
                  clear hL
                  have kb : Bk W w.heap.size 23 #[.int .i64 m, .int .i64 (s : Nat)] := hS.bk (.tail _ (.tail _ (.tail _ (.head _)))) (.tail _ (.tail _ (.tail _ (.head _))))
                  have f0 := kb.cell 0
                  have f1 := kb.cell 1
                  clear kb
                  go_simp
                  exact ⟨⟨fun d hd => by injection hd with hd; subst hd; rfl, fun h => by cases h⟩, hS, trivial⟩
              · as_aux_lemma =>
                  intro vals a W hS hL
                  have e74 : a.tmps.getD 74 undef = .agg #[.int .i64 m, .int .i64 (s : Nat)] := hL.1
                  clear hL
                  go_simp
                  refine (HO.out W).mono ?_
                  rintro e W' ⟨rfl, hb⟩
                  exact ⟨_, rfl, ⟨fun d hd => by injection hd with hd; subst hd; rfl, fun h => by cases h⟩, hS.call hb, trivial⟩
              · as_aux_lemma =>
                  intro vals a W hS hL
                  have e3 : a.tmps.getD 3 undef = .pointer (some ⟨(w.heap.size + 1), 0, none⟩) := hL.1
                  clear hL
                  have kb : Bk W (w.heap.size + 1) 23 #[.int .i64 n, .int .i64 (t : Nat)] := hS.bk (.tail _ (.tail _ (.head _))) (.tail _ (.tail _ (.head _)))
                  have f0 := kb.cell 0
                  have f1 := kb.cell 1
                  clear kb
                  go_simp
                  exact ⟨⟨fun d hd => by injection hd with hd; subst hd; rfl, fun h => by cases h⟩, hS, trivial⟩
              · as_aux_lemma =>
                  intro vals a W hS hL
                  have e76 : a.tmps.getD 76 undef = .agg #[.int .i64 n, .int .i64 (t : Nat)] := hL.1
                  clear hL
                  go_simp
                  refine (HO2.out W).mono ?_
                  rintro e W' ⟨rfl, hb⟩
                  exact ⟨_, rfl, ⟨fun d hd => by injection hd with hd; subst hd; rfl, fun h => by cases h⟩, hS.call hb, trivial⟩
              · as_aux_lemma =>
                  intro vals a W hS hL
                  have e75 : a.tmps.getD 75 undef = .agg #[.int .i64 m, .int .i64 (s : Nat)] := hL.1
                  have e77 : a.tmps.getD 77 undef = .agg #[.int .i64 n, .int .i64 (t : Nat)] := hL.2.1
                  clear hL
                  go_simp
                  refine (Rc.out W).mono ?_
                  rintro e W' ⟨rfl, hb⟩
                  exact ⟨_, rfl, ⟨fun d hd => by injection hd with hd; subst hd; rfl, fun h => by cases h⟩, hS.call hb, trivial⟩
              · as_aux_lemma =>
                  intro vals a W hS hL
                  have e78 : a.tmps.getD 78 undef = .tuple #[.agg #[.int .i64 cm, .int .i64 (cz : Nat)], .int .i64 (ce : Nat)] := hL.1
                  clear hL
                  go_simp
                  exact ⟨⟨fun d hd => by injection hd with hd; subst hd; rfl, fun h => by cases h⟩, hS, trivial⟩
              · as_aux_lemma =>
                  intro vals a W hS hL
                  have e73 : a.tmps.getD 73 undef = .tuple #[.agg #[.int .i64 cm, .int .i64 (cz : Nat)], .int .i64 (ce : Nat)] := hL.1
                  clear hL
                  go_simp
                  exact ⟨⟨fun d hd => by injection hd with hd; subst hd; rfl, fun h => by cases h⟩, hS, trivial⟩
              · as_aux_lemma =>
                  intro vals a W hS hL
                  have e73 : a.tmps.getD 73 undef = .tuple #[.agg #[.int .i64 cm, .int .i64 (cz : Nat)], .int .i64 (ce : Nat)] := hL.1
                  clear hL
                  go_simp
                  exact ⟨⟨fun d hd => by injection hd with hd; subst hd; rfl, fun h => by cases h⟩, hS, trivial⟩
              · as_aux_lemma =>
                  intro a W vals hv hS hL hp
                  have e7 : a.tmps.getD 7 undef = .pointer (some ⟨g, 0, none⟩) := hL.1
                  have e79 : a.tmps.getD 79 undef = .agg #[.int .i64 cm, .int .i64 (cz : Nat)] := hL.2.1
                  clear hL
                  match vals, hv, hS with
                  | [], _, hS =>
                    have hB : SB w N ([(g, 28, #[.int .i64 bm, .int .i64 (bz : Nat)]), (g5, 23, #[.int .i64 cm, .int .i64 (cz : Nat)]), ((w.heap.size + 1), 23, #[.int .i64 n, .int .i64 (t : Nat)]), (w.heap.size, 23, #[.int .i64 m, .int .i64 (s : Nat)])] : List (Nat × TypeId × Array Value)) W := hS
                    have kz := hB.bk _ (List.mem_cons_self ..)
                    have hlt : ∀ x ∈ ([(g5, 23, #[.int .i64 cm, .int .i64 (cz : Nat)]), ((w.heap.size + 1), 23, #[.int .i64 n, .int .i64 (t : Nat)]), (w.heap.size, 23, #[.int .i64 m, .int .i64 (s : Nat)])] : List (Nat × TypeId × Array Value)), x.1 ≠ g := by simp <;> omega
                    have z0 := kz.frozen 0
                    have q0 := kz.cell 0
                    have z1 := kz.frozen 1
                    have q1 := kz.cell 1
                    have hF := hB.set2 (by omega) hlt (.int .i64 cm : Value) (.int .i64 (cz : Nat) : Value)
                    rw [Array.getD_eq_getD_getElem?] at e79
                    clear hS kz hB
                    go_simp
                    exact ⟨hF, trivial, trivial⟩
              · as_aux_lemma =>
                  intro vals a W hS hL
                  have e80 : a.tmps.getD 80 undef = .int .i64 (ce : Nat) := hL.1
                  clear hL
                  go_simp
                  exact ⟨⟨fun d hd => by injection hd with hd; subst hd; rfl, fun h => by cases h⟩, hS, trivial⟩
            · intro a W' vals hd hsz hT hF hv hP hS
              obtain ⟨u, rfl⟩ : ∃ u, vals = [u] := by
                match vals, hv with
                | [u], _ => exact ⟨u, rfl⟩
              have hB : SB w N ([(g, 28, #[.int .i64 cm, .int .i64 (cz : Nat)]), (g5, 23, #[.int .i64 cm, .int .i64 (cz : Nat)]), ((w.heap.size + 1), 23, #[.int .i64 n, .int .i64 (t : Nat)]), (w.heap.size, 23, #[.int .i64 m, .int .i64 (s : Nat)])] : List (Nat × TypeId × Array Value)) W' := hS
              clear hS
              have e2 : a.tmps.getD 2 undef = .pointer (some ⟨w.heap.size, 0, none⟩) := hT 2 (by simp)
              have e3 : a.tmps.getD 3 undef = .pointer (some ⟨(w.heap.size + 1), 0, none⟩) := hT 3 (by simp)
              have e5 : a.tmps.getD 5 undef = .pointer (some ⟨g5, 0, none⟩) := hT 5 (by simp)
              have e6 : a.tmps.getD 6 undef = .int .i64 (ce : Nat) := hT 6 (by simp)
              have e7 : a.tmps.getD 7 undef = .pointer (some ⟨g, 0, none⟩) := hT 7 (by simp)
              have e8 : a.tmps.getD 8 undef = .int .i64 (ce : Nat) := hT 8 (by simp)
              clear hT hF hP
              rw [act_lit 124 a hd hsz]
              simp only [List.range, List.range.loop, List.map, e2, e3, e5, e6, e7, e8]
              clear e2 e3 e5 e6 e7 e8
              clear hsz hd
              have HB2 := Lib.hid hB
              clear hB HB
              have HB := HB2
              clear HB2
              go_wp2_with fail
              refine wp_region_phases (S := (S1 w N ([(g, 28, #[.int .i64 cm, .int .i64 (cz : Nat)]), (g5, 23, #[.int .i64 cm, .int .i64 (cz : Nat)]), ((w.heap.size + 1), 23, #[.int .i64 n, .int .i64 (t : Nat)]), (w.heap.size, 23, #[.int .i64 m, .int .i64 (s : Nat)])] : List (Nat × TypeId × Array Value)) ([(g, 28, #[.int .i64 cm, .int .i64 (cz : Nat)]), (g5, 23, #[.int .i64 cm, .int .i64 (cz : Nat)]), ((w.heap.size + 1), 23, #[.int .i64 n, .int .i64 (t : Nat)]), (w.heap.size, 23, #[.int .i64 m, .int .i64 (s : Nat)])] : List (Nat × TypeId × Array Value)))) (E := (fun _ _ => True)) [] [(2, Is (.pointer (some ⟨w.heap.size, 0, none⟩))), (3, Is (.pointer (some ⟨(w.heap.size + 1), 0, none⟩))), (5, Is (.pointer (some ⟨g5, 0, none⟩))), (6, Is (.int .i64 (ce : Nat))), (7, Is (.pointer (some ⟨g, 0, none⟩))), (8, Is (.int .i64 (ce : Nat)))] [(81, Is (.int .i64 (ce : Nat))), (82, Is (.int .i64 (ce : Nat))), (83, Is (.bool false)), (84, Is (.bool false)), (85, Is (.agg #[.int .i64 cm, .int .i64 (cz : Nat)])), (86, Is (.agg #[.int .i64 cm, .int .i64 (cz : Nat)])), (87, Is (.agg #[.int .i64 cm, .int .i64 (cz : Nat)])), (88, Is (.bool false)), (89, Is (.bool false))]
                [.op [6] none, .op [8] none, .op [81, 82] none, .op [83] none, .op [5, 84] (some (84, false)), .op [85, 84] (some (84, false)), .op [7, 84] (some (84, false)), .op [86, 87, 84] (some (84, false)), .op [84, 88] none] (by as_aux_lemma => kernel_rfl) ?_ ?_ ?_ ?_ ?_ ⟨stable_is _ _, stable_is _ _, stable_is _ _, stable_is _ _, stable_is _ _, stable_is _ _, stable_is _ _, stable_is _ _, stable_is _ _, stable_is _ _, stable_is _ _, stable_is _ _, stable_is _ _, stable_is _ _, stable_is _ _, trivial⟩ ?_ (HB.out.drew) ?_ ?_
              · as_aux_lemma => kernel_rfl
              · as_aux_lemma => kernel_rfl
              · as_aux_lemma => kernel_rfl
              · as_aux_lemma => kernel_rfl
              · as_aux_lemma => kernel_rfl
              · exact ⟨rfl, rfl, rfl, rfl, rfl, rfl, trivial⟩
              · refine ⟨?_, ?_, ?_, ?_, ?_, ?_, ?_, ?_, ?_, trivial⟩
                · as_aux_lemma =>
                    intro vals a W hS hL
                    have e6 : a.tmps.getD 6 undef = .int .i64 (ce : Nat) := hL.1
                    clear hL
                    go_simp
                    exact ⟨⟨fun d hd => by injection hd with hd; subst hd; rfl, fun h => by cases h⟩, hS, trivial⟩
                · as_aux_lemma =>
                    intro vals a W hS hL
                    have e8 : a.tmps.getD 8 undef = .int .i64 (ce : Nat) := hL.1
                    clear hL
                    go_simp
                    exact ⟨⟨fun d hd => by injection hd with hd; subst hd; rfl, fun h => by cases h⟩, hS, trivial⟩
                · as_aux_lemma =>
                    intro vals a W hS hL
                    have e81 : a.tmps.getD 81 undef = .int .i64 (ce : Nat) := hL.1
                    have e82 : a.tmps.getD 82 undef = .int .i64 (ce : Nat) := hL.2.1
                    clear hL
                    go_simp
                    exact ⟨⟨fun d hd => by injection hd with hd; subst hd; rfl, fun h => by cases h⟩, hS, trivial⟩
                · as_aux_lemma =>
                    intro vals a W hS hL
                    have e83 : a.tmps.getD 83 undef = .bool false := hL.1
                    clear hL
                    go_simp
                    exact ⟨⟨fun d hd => by injection hd with hd; subst hd; rfl, fun h => by cases h⟩, hS, trivial⟩
                · as_aux_lemma =>
                    intro vals a W hS hL
                    have e5 : a.tmps.getD 5 undef = .pointer (some ⟨g5, 0, none⟩) := hL.1
                    have e84 : a.tmps.getD 84 undef = .bool false := hL.2.1
                    clear hL
                    refine ⟨false, e84, ?_⟩
                    rw [if_pos rfl]
                    have kb : Bk W g5 23 #[.int .i64 cm, .int .i64 (cz : Nat)] := hS.bk (.tail _ (.head _)) (.tail _ (.head _))
                    have f0 := kb.cell 0
                    have f1 := kb.cell 1
                    clear kb
                    go_simp
                    exact ⟨⟨fun d hd => by injection hd with hd; subst hd; rfl, fun h => by cases h⟩, hS, trivial⟩
                · as_aux_lemma =>
                    intro vals a W hS hL
                    have e85 : a.tmps.getD 85 undef = .agg #[.int .i64 cm, .int .i64 (cz : Nat)] := hL.1
                    have e84 : a.tmps.getD 84 undef = .bool false := hL.2.1
                    clear hL
                    refine ⟨false, e84, ?_⟩
                    rw [if_pos rfl]
                    go_simp
                    refine (HOc.out W).mono ?_
                    rintro e W' ⟨rfl, hb⟩
                    exact ⟨_, rfl, ⟨fun d hd => by injection hd with hd; subst hd; rfl, fun h => by cases h⟩, hS.call hb, trivial⟩
                · as_aux_lemma =>
                    intro vals a W hS hL
                    have e7 : a.tmps.getD 7 undef = .pointer (some ⟨g, 0, none⟩) := hL.1
                    have e84 : a.tmps.getD 84 undef = .bool false := hL.2.1
                    clear hL
                    refine ⟨false, e84, ?_⟩
                    rw [if_pos rfl]
                    have kb : Bk W g 28 #[.int .i64 cm, .int .i64 (cz : Nat)] := hS.bk (.head _) (.head _)
                    have f0 := kb.cell 0
                    have f1 := kb.cell 1
                    clear kb
                    go_simp
                    exact ⟨⟨fun d hd => by injection hd with hd; subst hd; rfl, fun h => by cases h⟩, hS, trivial⟩
                · as_aux_lemma =>
                    intro vals a W hS hL
                    have e86 : a.tmps.getD 86 undef = .agg #[.int .i64 cm, .int .i64 (cz : Nat)] := hL.1
                    have e87 : a.tmps.getD 87 undef = .agg #[.int .i64 cm, .int .i64 (cz : Nat)] := hL.2.1
                    have e84 : a.tmps.getD 84 undef = .bool false := hL.2.2.1
                    clear hL
                    refine ⟨false, e84, ?_⟩
                    rw [if_pos rfl]
                    go_simp
                    exact ⟨⟨fun d hd => by injection hd with hd; subst hd; rfl, fun h => by cases h⟩, hS, trivial⟩
                · as_aux_lemma =>
                    intro vals a W hS hL
                    have e84 : a.tmps.getD 84 undef = .bool false := hL.1
                    have e88 : a.tmps.getD 88 undef = .bool false := hL.2.1
                    clear hL
                    go_simp
                    exact ⟨⟨fun d hd => by injection hd with hd; subst hd; rfl, fun h => by cases h⟩, hS, trivial⟩
              · intro a W' vals hd hsz hT hF hv hP hS
                obtain rfl : vals = [] := List.eq_nil_of_length_eq_zero hv
                have hB : SB w N ([(g, 28, #[.int .i64 cm, .int .i64 (cz : Nat)]), (g5, 23, #[.int .i64 cm, .int .i64 (cz : Nat)]), ((w.heap.size + 1), 23, #[.int .i64 n, .int .i64 (t : Nat)]), (w.heap.size, 23, #[.int .i64 m, .int .i64 (s : Nat)])] : List (Nat × TypeId × Array Value)) W' := hS
                clear hS
                have e2 : a.tmps.getD 2 undef = .pointer (some ⟨w.heap.size, 0, none⟩) := hT 2 (by simp)
                have e3 : a.tmps.getD 3 undef = .pointer (some ⟨(w.heap.size + 1), 0, none⟩) := hT 3 (by simp)
                have e5 : a.tmps.getD 5 undef = .pointer (some ⟨g5, 0, none⟩) := hT 5 (by simp)
                have e6 : a.tmps.getD 6 undef = .int .i64 (ce : Nat) := hT 6 (by simp)
                have e7 : a.tmps.getD 7 undef = .pointer (some ⟨g, 0, none⟩) := hT 7 (by simp)
                have e8 : a.tmps.getD 8 undef = .int .i64 (ce : Nat) := hT 8 (by simp)
                have e89 : a.tmps.getD 89 undef = .bool false := hT 89 (by simp)
                clear hT hF hP
                rw [act_lit 124 a hd hsz]
                simp only [List.range, List.range.loop, List.map, e2, e3, e5, e6, e7, e8, e89]
                clear e2 e3 e5 e6 e7 e8 e89
                clear hsz hd
                have HB2 := Lib.hid hB
                clear hB HB
                have HB := HB2
                clear HB2
                have q2 := HB.out.bk _ (.tail _ (.tail _ (.head _)))
                have c20 := q2.cell 0
                have c21 := q2.cell 1
                clear q2
                have q3 := HB.out.bk _ (.tail _ (.tail _ (.tail _ (.head _))))
                have c30 := q3.cell 0
                have c31 := q3.cell 1
                clear q3
                go_wp2_with fail
                refine (Hd.out _).mono ?_
                rintro e w23 ⟨rfl, hb⟩
                clear c20 c21 c30 c31
                have HB23 := Lib.hid (HB.out.call hb)
                clear hb HB
                have HB := HB23
                clear HB23
                have q1 := HB.out.bk _ (.tail _ (.head _))
                have c10 := q1.cell 0
                have c11 := q1.cell 1
                have z10 := q1.frozen 0
                have z11 := q1.frozen 1
                clear q1
                have HB23 := Lib.hid ((HB.out.turn.set2 (by omega) (by simp <;> omega) (.int .i64 dm) (.int .i64 (dz : Nat))).turn)
                clear HB
                have HB := HB23
                clear HB23
                go_wp2_with fail
                clear c10 c11 z10 z11
                generalize ((w23.setCell ⟨g5, 0, none⟩ (.int .i64 dm)).setCell ⟨g5, 1, none⟩ (.int .i64 (dz : Nat))) = w23x at *
                refine wp_region_phases (S := (S1 w N ([(g, 28, #[.int .i64 cm, .int .i64 (cz : Nat)]), (g5, 23, #[.int .i64 dm, .int .i64 (dz : Nat)]), ((w.heap.size + 1), 23, #[.int .i64 n, .int .i64 (t : Nat)]), (w.heap.size, 23, #[.int .i64 m, .int .i64 (s : Nat)])] : List (Nat × TypeId × Array Value)) ([(g, 28, #[.int .i64 dm, .int .i64 (dz : Nat)]), (g5, 23, #[.int .i64 dm, .int .i64 (dz : Nat)]), ((w.heap.size + 1), 23, #[.int .i64 n, .int .i64 (t : Nat)]), (w.heap.size, 23, #[.int .i64 m, .int .i64 (s : Nat)])] : List (Nat × TypeId × Array Value)))) (E := (fun _ _ => True)) [8] [(2, Is (.pointer (some ⟨w.heap.size, 0, none⟩))), (3, Is (.pointer (some ⟨(w.heap.size + 1), 0, none⟩))), (5, Is (.pointer (some ⟨g5, 0, none⟩))), (6, Is (.int .i64 (de : Nat))), (7, Is (.pointer (some ⟨g, 0, none⟩)))] [(97, Is (.agg #[.int .i64 m, .int .i64 (s : Nat)])), (98, Is (.agg #[.int .i64 m, .int .i64 (s : Nat)])), (99, Is (.agg #[.int .i64 n, .int .i64 (t : Nat)])), (100, Is (.agg #[.int .i64 n, .int .i64 (t : Nat)])), (101, Is (.tuple #[.agg #[.int .i64 dm, .int .i64 (dz : Nat)], .int .i64 (de : Nat)])), (96, Is (.tuple #[.agg #[.int .i64 dm, .int .i64 (dz : Nat)], .int .i64 (de : Nat)])), (102, Is (.agg #[.int .i64 dm, .int .i64 (dz : Nat)])), (103, Is (.int .i64 (de : Nat))), (8, Is (.int .i64 (de : Nat)))]
                  [.op [2] none, .op [97] none, .op [3] none, .op [99] none, .op [98, 100] none, .op [101] none, .op [96] none, .op [96] none, .phase 0 [7, 102] [], .op [103] none] (by as_aux_lemma => kernel_rfl) ?_ ?_ ?_ ?_ ?_ ⟨stable_is _ _, stable_is _ _, stable_is _ _, stable_is _ _, stable_is _ _, stable_is _ _, stable_is _ _, stable_is _ _, stable_is _ _, stable_is _ _, stable_is _ _, stable_is _ _, stable_is _ _, stable_is _ _, trivial⟩ ?_ (HB.out.drew) ?_ ?_
                · as_aux_lemma => kernel_rfl
                · as_aux_lemma => kernel_rfl
                · as_aux_lemma => kernel_rfl
                · as_aux_lemma => kernel_rfl
                · as_aux_lemma => kernel_rfl
                · exact ⟨rfl, rfl, rfl, rfl, rfl, trivial⟩
                · refine ⟨?_, ?_, ?_, ?_, ?_, ?_, ?_, ?_, ?_, ?_, trivial⟩
                  · as_aux_lemma =>
                      intro vals a W hS hL
                      have e2 : a.tmps.getD 2 undef = .pointer (some ⟨w.heap.size, 0, none⟩) := hL.1
                      clear hL
                      have kb : Bk W w.heap.size 23 #[.int .i64 m, .int .i64 (s : Nat)] := hS.bk (.tail _ (.tail _ (.tail _ (.head _)))) (.tail _ (.tail _ (.tail _ (.head _))))
                      have f0 := kb.cell 0
                      have f1 := kb.cell 1
                      clear kb
                      go_simp
                      exact ⟨⟨fun d hd => by injection hd with hd; subst hd; rfl, fun h => by cases h⟩, hS, trivial⟩
                  · as_aux_lemma =>
                      intro vals a W hS hL
                      have e97 : a.tmps.getD 97 undef = .agg #[.int .i64 m, .int .i64 (s : Nat)] := hL.1
                      clear hL
                      go_simp
                      refine (HO.out W).mono ?_
                      rintro e W' ⟨rfl, hb⟩
                      exact ⟨_, rfl, ⟨fun d hd => by injection hd with hd; subst hd; rfl, fun h => by cases h⟩, hS.call hb, trivial⟩
                  · as_aux_lemma =>
                      intro vals a W hS hL
                      have e3 : a.tmps.getD 3 undef = .pointer (some ⟨(w.heap.size + 1), 0, none⟩) := hL.1
                      clear hL
                      have kb : Bk W (w.heap.size + 1) 23 #[.int .i64 n, .int .i64 (t : Nat)] := hS.bk (.tail _ (.tail _ (.head _))) (.tail _ (.tail _ (.head _)))
                      have f0 := kb.cell 0
                      have f1 := kb.cell 1
                      clear kb
                      go_simp
                      exact ⟨⟨fun d hd => by injection hd with hd; subst hd; rfl, fun h => by cases h⟩, hS, trivial⟩
                  · as_aux_lemma =>
                      intro vals a W hS hL
                      have e99 : a.tmps.getD 99 undef = .agg #[.int .i64 n, .int .i64 (t : Nat)] := hL.1
                      clear hL
                      go_simp
                      refine (HO2.out W).mono ?_
                      rintro e W' ⟨rfl, hb⟩
                      exact ⟨_, rfl, ⟨fun d hd => by injection hd with hd; subst hd; rfl, fun h => by cases h⟩, hS.call hb, trivial⟩
                  · as_aux_lemma =>
                      intro vals a W hS hL
                      have e98 : a.tmps.getD 98 undef = .agg #[.int .i64 m, .int .i64 (s : Nat)] := hL.1
                      have e100 : a.tmps.getD 100 undef = .agg #[.int .i64 n, .int .i64 (t : Nat)] := hL.2.1
                      clear hL
                      go_simp
                      refine (Rdv.out W).mono ?_
                      rintro e W' ⟨rfl, hb⟩
                      exact ⟨_, rfl, ⟨fun d hd => by injection hd with hd; subst hd; rfl, fun h => by cases h⟩, hS.call hb, trivial⟩
                  · as_aux_lemma =>
                      intro vals a W hS hL
                      have e101 : a.tmps.getD 101 undef = .tuple #[.agg #[.int .i64 dm, .int .i64 (dz : Nat)], .int .i64 (de : Nat)] := hL.1
                      clear hL
                      go_simp
                      exact ⟨⟨fun d hd => by injection hd with hd; subst hd; rfl, fun h => by cases h⟩, hS, trivial⟩
                  · as_aux_lemma =>
                      intro vals a W hS hL
                      have e96 : a.tmps.getD 96 undef = .tuple #[.agg #[.int .i64 dm, .int .i64 (dz : Nat)], .int .i64 (de : Nat)] := hL.1
                      clear hL
                      go_simp
                      exact ⟨⟨fun d hd => by injection hd with hd; subst hd; rfl, fun h => by cases h⟩, hS, trivial⟩
                  · as_aux_lemma =>
                      intro vals a W hS hL
                      have e96 : a.tmps.getD 96 undef = .tuple #[.agg #[.int .i64 dm, .int .i64 (dz : Nat)], .int .i64 (de : Nat)] := hL.1
                      clear hL
                      go_simp
                      exact ⟨⟨fun d hd => by injection hd with hd; subst hd; rfl, fun h => by cases h⟩, hS, trivial⟩
                  · as_aux_lemma =>
                      intro a W vals hv hS hL hp
                      have e7 : a.tmps.getD 7 undef = .pointer (some ⟨g, 0, none⟩) := hL.1
                      have e102 : a.tmps.getD 102 undef = .agg #[.int .i64 dm, .int .i64 (dz : Nat)] := hL.2.1
                      clear hL
                      match vals, hv, hS with
                      | [], _, hS =>
                        have hB : SB w N ([(g, 28, #[.int .i64 cm, .int .i64 (cz : Nat)]), (g5, 23, #[.int .i64 dm, .int .i64 (dz : Nat)]), ((w.heap.size + 1), 23, #[.int .i64 n, .int .i64 (t : Nat)]), (w.heap.size, 23, #[.int .i64 m, .int .i64 (s : Nat)])] : List (Nat × TypeId × Array Value)) W := hS
                        have kz := hB.bk _ (List.mem_cons_self ..)
                        have hlt : ∀ x ∈ ([(g5, 23, #[.int .i64 dm, .int .i64 (dz : Nat)]), ((w.heap.size + 1), 23, #[.int .i64 n, .int .i64 (t : Nat)]), (w.heap.size, 23, #[.int .i64 m, .int .i64 (s : Nat)])] : List (Nat × TypeId × Array Value)), x.1 ≠ g := by simp <;> omega
                        have z0 := kz.frozen 0
                        have q0 := kz.cell 0
                        have z1 := kz.frozen 1
                        have q1 := kz.cell 1
                        have hF := hB.set2 (by omega) hlt (.int .i64 dm : Value) (.int .i64 (dz : Nat) : Value)
                        rw [Array.getD_eq_getD_getElem?] at e102
                        clear hS kz hB
                        go_simp
                        exact ⟨hF, trivial, trivial⟩
                  · as_aux_lemma =>
                      intro vals a W hS hL
                      have e103 : a.tmps.getD 103 undef = .int .i64 (de : Nat) := hL.1
                      clear hL
                      go_simp
                      exact ⟨⟨fun d hd => by injection hd with hd; subst hd; rfl, fun h => by cases h⟩, hS, trivial⟩
                · intro a W' vals hd hsz hT hF hv hP hS
                  obtain ⟨u, rfl⟩ : ∃ u, vals = [u] := by
                    match vals, hv with
                    | [u], _ => exact ⟨u, rfl⟩
                  have hB : SB w N ([(g, 28, #[.int .i64 dm, .int .i64 (dz : Nat)]), (g5, 23, #[.int .i64 dm, .int .i64 (dz : Nat)]), ((w.heap.size + 1), 23, #[.int .i64 n, .int .i64 (t : Nat)]), (w.heap.size, 23, #[.int .i64 m, .int .i64 (s : Nat)])] : List (Nat × TypeId × Array Value)) W' := hS
                  clear hS
                  have e2 : a.tmps.getD 2 undef = .pointer (some ⟨w.heap.size, 0, none⟩) := hT 2 (by simp)
                  have e3 : a.tmps.getD 3 undef = .pointer (some ⟨(w.heap.size + 1), 0, none⟩) := hT 3 (by simp)
                  have e5 : a.tmps.getD 5 undef = .pointer (some ⟨g5, 0, none⟩) := hT 5 (by simp)
                  have e6 : a.tmps.getD 6 undef = .int .i64 (de : Nat) := hT 6 (by simp)
                  have e7 : a.tmps.getD 7 undef = .pointer (some ⟨g, 0, none⟩) := hT 7 (by simp)
                  have e8 : a.tmps.getD 8 undef = .int .i64 (de : Nat) := hT 8 (by simp)
                  clear hT hF hP
                  rw [act_lit 124 a hd hsz]
                  simp only [List.range, List.range.loop, List.map, e2, e3, e5, e6, e7, e8]
                  clear e2 e3 e5 e6 e7 e8
                  clear hsz hd
                  have HB2 := Lib.hid hB
                  clear hB HB
                  have HB := HB2
                  clear HB2
                  go_wp2_with fail
                  refine wp_region_phases (S := (S1 w N ([(g, 28, #[.int .i64 dm, .int .i64 (dz : Nat)]), (g5, 23, #[.int .i64 dm, .int .i64 (dz : Nat)]), ((w.heap.size + 1), 23, #[.int .i64 n, .int .i64 (t : Nat)]), (w.heap.size, 23, #[.int .i64 m, .int .i64 (s : Nat)])] : List (Nat × TypeId × Array Value)) ([(g, 28, #[.int .i64 dm, .int .i64 (dz : Nat)]), (g5, 23, #[.int .i64 dm, .int .i64 (dz : Nat)]), ((w.heap.size + 1), 23, #[.int .i64 n, .int .i64 (t : Nat)]), (w.heap.size, 23, #[.int .i64 m, .int .i64 (s : Nat)])] : List (Nat × TypeId × Array Value)))) (E := (fun _ _ => True)) [] [(2, Is (.pointer (some ⟨w.heap.size, 0, none⟩))), (3, Is (.pointer (some ⟨(w.heap.size + 1), 0, none⟩))), (5, Is (.pointer (some ⟨g5, 0, none⟩))), (6, Is (.int .i64 (de : Nat))), (7, Is (.pointer (some ⟨g, 0, none⟩))), (8, Is (.int .i64 (de : Nat)))] [(104, Is (.int .i64 (de : Nat))), (105, Is (.int .i64 (de : Nat))), (106, Is (.bool true)), (107, Is (.bool true)), (108, Is (.agg #[.int .i64 dm, .int .i64 (dz : Nat)])), (109, Is (.agg #[.int .i64 dm, .int .i64 (dz : Nat)])), (110, Is (.agg #[.int .i64 dm, .int .i64 (dz : Nat)])), (111, Is (.bool true)), (112, Is (.bool true)), (113, Is (.bool true)), (114, Is (.agg #[.int .i64 m, .int .i64 (s : Nat)])), (115, Is (.agg #[.int .i64 n, .int .i64 (t : Nat)])), (116, Is (.int .i64 cv)), (117, Is (.agg #[.int .i64 m, .int .i64 (s : Nat)])), (118, Is (.agg #[.int .i64 m, .int .i64 (s : Nat)])), (119, Is (.agg #[.int .i64 n, .int .i64 (t : Nat)])), (120, Is (.agg #[.int .i64 n, .int .i64 (t : Nat)])), (121, Is (.int .i64 cv)), (122, Is (.bool true)), (123, Is (.bool true)), (4, Is (.bool true))]
                    [.op [6] none, .op [8] none, .op [104, 105] none, .op [106] none, .op [5, 107] (some (107, true)), .op [108, 107] (some (107, true)), .op [7, 107] (some (107, true)), .op [109, 110, 107] (some (107, true)), .op [107, 111] none, .op [112] none, .op [2, 113] (some (113, true)), .op [3, 113] (some (113, true)), .op [114, 115, 113] (some (113, true)), .op [2, 113] (some (113, true)), .op [117, 113] (some (113, true)), .op [3, 113] (some (113, true)), .op [119, 113] (some (113, true)), .op [118, 120, 113] (some (113, true)), .op [116, 121, 113] (some (113, true)), .op [113, 122] none, .op [123] none] (by as_aux_lemma => kernel_rfl) ?_ ?_ ?_ ?_ ?_ ⟨stable_is _ _, stable_is _ _, stable_is _ _, stable_is _ _, stable_is _ _, stable_is _ _, stable_is _ _, stable_is _ _, stable_is _ _, stable_is _ _, stable_is _ _, stable_is _ _, stable_is _ _, stable_is _ _, stable_is _ _, stable_is _ _, stable_is _ _, stable_is _ _, stable_is _ _, stable_is _ _, stable_is _ _, stable_is _ _, stable_is _ _, stable_is _ _, stable_is _ _, stable_is _ _, stable_is _ _, trivial⟩ ?_ (HB.out.drew) ?_ ?_
                  · as_aux_lemma => kernel_rfl
                  · as_aux_lemma => kernel_rfl
                  · as_aux_lemma => kernel_rfl
                  · as_aux_lemma => kernel_rfl
                  · as_aux_lemma => kernel_rfl
                  · exact ⟨rfl, rfl, rfl, rfl, rfl, rfl, trivial⟩
                  · refine ⟨?_, ?_, ?_, ?_, ?_, ?_, ?_, ?_, ?_, ?_, ?_, ?_, ?_, ?_, ?_, ?_, ?_, ?_, ?_, ?_, ?_, trivial⟩
                    · as_aux_lemma =>
                        intro vals a W hS hL
                        have e6 : a.tmps.getD 6 undef = .int .i64 (de : Nat) := hL.1
                        clear hL
                        go_simp
                        exact ⟨⟨fun d hd => by injection hd with hd; subst hd; rfl, fun h => by cases h⟩, hS, trivial⟩
                    · as_aux_lemma =>
                        intro vals a W hS hL
                        have e8 : a.tmps.getD 8 undef = .int .i64 (de : Nat) := hL.1
                        clear hL
                        go_simp
                        exact ⟨⟨fun d hd => by injection hd with hd; subst hd; rfl, fun h => by cases h⟩, hS, trivial⟩
                    · as_aux_lemma =>
                        intro vals a W hS hL
                        have e104 : a.tmps.getD 104 undef = .int .i64 (de : Nat) := hL.1
                        have e105 : a.tmps.getD 105 undef = .int .i64 (de : Nat) := hL.2.1
                        clear hL
                        go_simp
                        exact ⟨⟨fun d hd => by injection hd with hd; subst hd; rfl, fun h => by cases h⟩, hS, trivial⟩
                    · as_aux_lemma =>
                        intro vals a W hS hL
                        have e106 : a.tmps.getD 106 undef = .bool true := hL.1
                        clear hL
                        go_simp
                        exact ⟨⟨fun d hd => by injection hd with hd; subst hd; rfl, fun h => by cases h⟩, hS, trivial⟩
                    · as_aux_lemma =>
                        intro vals a W hS hL
                        have e5 : a.tmps.getD 5 undef = .pointer (some ⟨g5, 0, none⟩) := hL.1
                        have e107 : a.tmps.getD 107 undef = .bool true := hL.2.1
                        clear hL
                        refine ⟨true, e107, ?_⟩
                        rw [if_pos rfl]
                        have kb : Bk W g5 23 #[.int .i64 dm, .int .i64 (dz : Nat)] := hS.bk (.tail _ (.head _)) (.tail _ (.head _))
                        have f0 := kb.cell 0
                        have f1 := kb.cell 1
                        clear kb
                        go_simp
                        exact ⟨⟨fun d hd => by injection hd with hd; subst hd; rfl, fun h => by cases h⟩, hS, trivial⟩
                    · as_aux_lemma =>
                        intro vals a W hS hL
                        have e108 : a.tmps.getD 108 undef = .agg #[.int .i64 dm, .int .i64 (dz : Nat)] := hL.1
                        have e107 : a.tmps.getD 107 undef = .bool true := hL.2.1
                        clear hL
                        refine ⟨true, e107, ?_⟩
                        rw [if_pos rfl]
                        go_simp
                        refine (HOd.out W).mono ?_
                        rintro e W' ⟨rfl, hb⟩
                        exact ⟨_, rfl, ⟨fun d hd => by injection hd with hd; subst hd; rfl, fun h => by cases h⟩, hS.call hb, trivial⟩
                    · as_aux_lemma =>
                        intro vals a W hS hL
                        have e7 : a.tmps.getD 7 undef = .pointer (some ⟨g, 0, none⟩) := hL.1
                        have e107 : a.tmps.getD 107 undef = .bool true := hL.2.1
                        clear hL
                        refine ⟨true, e107, ?_⟩
                        rw [if_pos rfl]
                        have kb : Bk W g 28 #[.int .i64 dm, .int .i64 (dz : Nat)] := hS.bk (.head _) (.head _)
                        have f0 := kb.cell 0
                        have f1 := kb.cell 1
                        clear kb
                        go_simp
                        exact ⟨⟨fun d hd => by injection hd with hd; subst hd; rfl, fun h => by cases h⟩, hS, trivial⟩
                    · as_aux_lemma =>
                        intro vals a W hS hL
                        have e109 : a.tmps.getD 109 undef = .agg #[.int .i64 dm, .int .i64 (dz : Nat)] := hL.1
                        have e110 : a.tmps.getD 110 undef = .agg #[.int .i64 dm, .int .i64 (dz : Nat)] := hL.2.1
                        have e107 : a.tmps.getD 107 undef = .bool true := hL.2.2.1
                        clear hL
                        refine ⟨true, e107, ?_⟩
                        rw [if_pos rfl]
                        go_simp
                        exact ⟨⟨fun d hd => by injection hd with hd; subst hd; rfl, fun h => by cases h⟩, hS, trivial⟩
                    · as_aux_lemma =>
                        intro vals a W hS hL
                        have e107 : a.tmps.getD 107 undef = .bool true := hL.1
                        have e111 : a.tmps.getD 111 undef = .bool true := hL.2.1
                        clear hL
                        go_simp
                        exact ⟨⟨fun d hd => by injection hd with hd; subst hd; rfl, fun h => by cases h⟩, hS, trivial⟩
                    · as_aux_lemma =>
                        intro vals a W hS hL
                        have e112 : a.tmps.getD 112 undef = .bool true := hL.1
                        clear hL
                        go_simp
                        exact ⟨⟨fun d hd => by injection hd with hd; subst hd; rfl, fun h => by cases h⟩, hS, trivial⟩
                    · as_aux_lemma =>
                        intro vals a W hS hL
                        have e2 : a.tmps.getD 2 undef = .pointer (some ⟨w.heap.size, 0, none⟩) := hL.1
                        have e113 : a.tmps.getD 113 undef = .bool true := hL.2.1
                        clear hL
                        refine ⟨true, e113, ?_⟩
                        rw [if_pos rfl]
                        have kb : Bk W w.heap.size 23 #[.int .i64 m, .int .i64 (s : Nat)] := hS.bk (.tail _ (.tail _ (.tail _ (.head _)))) (.tail _ (.tail _ (.tail _ (.head _))))
                        have f0 := kb.cell 0
                        have f1 := kb.cell 1
                        clear kb
                        go_simp
                        exact ⟨⟨fun d hd => by injection hd with hd; subst hd; rfl, fun h => by cases h⟩, hS, trivial⟩
                    · as_aux_lemma =>
                        intro vals a W hS hL
                        have e3 : a.tmps.getD 3 undef = .pointer (some ⟨(w.heap.size + 1), 0, none⟩) := hL.1
                        have e113 : a.tmps.getD 113 undef = .bool true := hL.2.1
                        clear hL
                        refine ⟨true, e113, ?_⟩
                        rw [if_pos rfl]
                        have kb : Bk W (w.heap.size + 1) 23 #[.int .i64 n, .int .i64 (t : Nat)] := hS.bk (.tail _ (.tail _ (.head _))) (.tail _ (.tail _ (.head _)))
                        have f0 := kb.cell 0
                        have f1 := kb.cell 1
                        clear kb
                        go_simp
                        exact ⟨⟨fun d hd => by injection hd with hd; subst hd; rfl, fun h => by cases h⟩, hS, trivial⟩
                    · as_aux_lemma =>
                        intro vals a W hS hL
                        have e114 : a.tmps.getD 114 undef = .agg #[.int .i64 m, .int .i64 (s : Nat)] := hL.1
                        have e115 : a.tmps.getD 115 undef = .agg #[.int .i64 n, .int .i64 (t : Nat)] := hL.2.1
                        have e113 : a.tmps.getD 113 undef = .bool true := hL.2.2.1
                        clear hL
                        refine ⟨true, e113, ?_⟩
                        rw [if_pos rfl]
                        go_simp
                        refine (Hcmp.out W).mono ?_
                        rintro e W' ⟨rfl, hb⟩
                        exact ⟨_, rfl, ⟨fun d hd => by injection hd with hd; subst hd; rfl, fun h => by cases h⟩, hS.call hb, trivial⟩
                    · as_aux_lemma =>
                        intro vals a W hS hL
                        have e2 : a.tmps.getD 2 undef = .pointer (some ⟨w.heap.size, 0, none⟩) := hL.1
                        have e113 : a.tmps.getD 113 undef = .bool true := hL.2.1
                        clear hL
                        refine ⟨true, e113, ?_⟩
                        rw [if_pos rfl]
                        have kb : Bk W w.heap.size 23 #[.int .i64 m, .int .i64 (s : Nat)] := hS.bk (.tail _ (.tail _ (.tail _ (.head _)))) (.tail _ (.tail _ (.tail _ (.head _))))
                        have f0 := kb.cell 0
                        have f1 := kb.cell 1
                        clear kb
                        go_simp
                        exact ⟨⟨fun d hd => by injection hd with hd; subst hd; rfl, fun h => by cases h⟩, hS, trivial⟩
                    · as_aux_lemma =>
                        intro vals a W hS hL
                        have e117 : a.tmps.getD 117 undef = .agg #[.int .i64 m, .int .i64 (s : Nat)] := hL.1
                        have e113 : a.tmps.getD 113 undef = .bool true := hL.2.1
                        clear hL
                        refine ⟨true, e113, ?_⟩
                        rw [if_pos rfl]
                        go_simp
                        refine (HO.out W).mono ?_
                        rintro e W' ⟨rfl, hb⟩
                        exact ⟨_, rfl, ⟨fun d hd => by injection hd with hd; subst hd; rfl, fun h => by cases h⟩, hS.call hb, trivial⟩
                    · as_aux_lemma =>
                        intro vals a W hS hL
                        have e3 : a.tmps.getD 3 undef = .pointer (some ⟨(w.heap.size + 1), 0, none⟩) := hL.1
                        have e113 : a.tmps.getD 113 undef = .bool true := hL.2.1
                        clear hL
                        refine ⟨true, e113, ?_⟩
                        rw [if_pos rfl]
                        have kb : Bk W (w.heap.size + 1) 23 #[.int .i64 n, .int .i64 (t : Nat)] := hS.bk (.tail _ (.tail _ (.head _))) (.tail _ (.tail _ (.head _)))
                        have f0 := kb.cell 0
                        have f1 := kb.cell 1
                        clear kb
                        go_simp
                        exact ⟨⟨fun d hd => by injection hd with hd; subst hd; rfl, fun h => by cases h⟩, hS, trivial⟩
                    · as_aux_lemma =>
                        intro vals a W hS hL
                        have e119 : a.tmps.getD 119 undef = .agg #[.int .i64 n, .int .i64 (t : Nat)] := hL.1
                        have e113 : a.tmps.getD 113 undef = .bool true := hL.2.1
                        clear hL
                        refine ⟨true, e113, ?_⟩
                        rw [if_pos rfl]
                        go_simp
                        refine (HO2.out W).mono ?_
                        rintro e W' ⟨rfl, hb⟩
                        exact ⟨_, rfl, ⟨fun d hd => by injection hd with hd; subst hd; rfl, fun h => by cases h⟩, hS.call hb, trivial⟩
                    · as_aux_lemma =>
                        intro vals a W hS hL
                        have e118 : a.tmps.getD 118 undef = .agg #[.int .i64 m, .int .i64 (s : Nat)] := hL.1
                        have e120 : a.tmps.getD 120 undef = .agg #[.int .i64 n, .int .i64 (t : Nat)] := hL.2.1
                        have e113 : a.tmps.getD 113 undef = .bool true := hL.2.2.1
                        clear hL
                        refine ⟨true, e113, ?_⟩
                        rw [if_pos rfl]
                        go_simp
                        refine (Rcmp.out W).mono ?_
                        rintro e W' ⟨rfl, hb⟩
                        exact ⟨_, rfl, ⟨fun d hd => by injection hd with hd; subst hd; rfl, fun h => by cases h⟩, hS.call hb, trivial⟩
                    · as_aux_lemma =>
                        intro vals a W hS hL
                        have e116 : a.tmps.getD 116 undef = .int .i64 cv := hL.1
                        have e121 : a.tmps.getD 121 undef = .int .i64 cv := hL.2.1
                        have e113 : a.tmps.getD 113 undef = .bool true := hL.2.2.1
                        clear hL
                        refine ⟨true, e113, ?_⟩
                        rw [if_pos rfl]
                        go_simp
                        exact ⟨⟨fun d hd => by injection hd with hd; subst hd; rfl, fun h => by cases h⟩, hS, trivial⟩
                    · as_aux_lemma =>
                        intro vals a W hS hL
                        have e113 : a.tmps.getD 113 undef = .bool true := hL.1
                        have e122 : a.tmps.getD 122 undef = .bool true := hL.2.1
                        clear hL
                        go_simp
                        exact ⟨⟨fun d hd => by injection hd with hd; subst hd; rfl, fun h => by cases h⟩, hS, trivial⟩
                    · as_aux_lemma =>
                        intro vals a W hS hL
                        have e123 : a.tmps.getD 123 undef = .bool true := hL.1
                        clear hL
                        go_simp
                        exact ⟨⟨fun d hd => by injection hd with hd; subst hd; rfl, fun h => by cases h⟩, hS, trivial⟩
                  · intro a W' vals hd hsz hT hF hv _ hS
                    obtain rfl : vals = [] := List.eq_nil_of_length_eq_zero hv
                    have hB : SB w N ([(g, 28, #[.int .i64 dm, .int .i64 (dz : Nat)]), (g5, 23, #[.int .i64 dm, .int .i64 (dz : Nat)]), ((w.heap.size + 1), 23, #[.int .i64 n, .int .i64 (t : Nat)]), (w.heap.size, 23, #[.int .i64 m, .int .i64 (s : Nat)])] : List (Nat × TypeId × Array Value)) W' := hS
                    clear hS
                    have e4 : a.tmps.getD 4 undef = .bool true := hT 4 (by simp)
                    clear hT hF
                    go_wp2
                    refine bodyPost_ret (v := .bool true) ?_ hd ⟨rfl, hB.bel⟩
                    rw [Array.getD_eq_getD_getElem?] at e4
                    simp [results, Tryz.results3, go_sem, e4]

theorem sums_any {w : World} {m n s t : Int} (h0 : -9223372036854775808 ≤ m) (h1 : m ≤ 9223372036854775807) (h2 : -9223372036854775808 ≤ n) (h3 : n ≤ 9223372036854775807) :
    Calls Tryz.prog 3 #[.agg #[.int .i64 m, .int .i64 s], .agg #[.int .i64 n, .int .i64 t]] w fun e w' => e = .returned (.bool true) ∧ Below w.heap.size w w' := by
  rcases ckE_cases m s with hc | hc
  · rcases ckE_cases n t with hd | hd
    · obtain ⟨s', rfl, hx⟩ := gd_of hc h0 h1
      obtain ⟨t', rfl, hy⟩ := gd_of hd h2 h3
      exact sums_good hx hy
    · exact sums_b hc hd
  · exact sums_a hc
end Go.Proofs.YtgepipapppdhfaaGreatDoor
