/- cashbooklaw4.DecFloors by its contract: it returns true. Condition: numbers within 64 bits. -/
import Derived.Test.YtfkfgfajdmacbaaDoorKnown4
namespace Go.Proofs.YtfkfgfajdmacbaaDoor
open Go.RowKit

theorem of_any {w : World} {m s : Int} :
    Calls Tryd.prog 9 #[.agg #[.int .i64 m, .int .i64 s]] w fun e w' => e = .returned (.agg #[.int .i64 m, .int .i64 s]) ∧ Below w.heap.size w w' := by
  go_enter Tryd.func9, Tryd.ntmps9
  go_wp2
  exact bodyPost_ret (v := .agg #[.int .i64 m, .int .i64 s]) (by simp [results, Tryd.results9, go_sem]) rfl ⟨rfl, bel1 _ _ _⟩

theorem ckE_cases (m s : Int) : ckE m s = 0 ∨ ckE m s = 1 := by unfold ckE; split <;> simp
/-- What Check takes stands. -/
theorem gd_of {m s : Int} (h : ckE m s = 0) (h0 : -9223372036854775808 ≤ m) (h1 : m ≤ 9223372036854775807) : ∃ t : Nat, s = (t : Int) ∧ Gd m t := by
  unfold ckE at h
  by_cases hc : s < 0 ∨ 9 < s ∨ (0 < s ∧ m % 10 = 0)
  · rw [if_pos hc] at h; omega
  · refine ⟨s.toNat, by omega, ⟨h0, h1, by omega, ?_⟩⟩
    rcases Nat.eq_zero_or_pos s.toNat with h2 | h2
    · exact .inl h2
    · right; omega
theorem bnot {w : World} {m s : Int} (h : ckE m s = 1) :
    Calls Tryd.prog 23 #[.agg #[.int .i64 m, .int .i64 s]] w fun e w' => e = .returned (.int .i64 1) ∧ Below w.heap.size w w' := by
  have := bCheck_any (w := w) (m := m) (s := s)
  rw [h] at this
  exact this
theorem byes {w : World} {m : Int} {s : Nat} (h : Gd m s) :
    Calls Tryd.prog 23 #[.agg #[.int .i64 m, .int .i64 (s : Nat)]] w fun e w' => e = .returned (.int .i64 0) ∧ Below w.heap.size w w' := by
  have := bCheck_any (w := w) (m := m) (s := s)
  rw [h.ck] at this
  exact this

set_option maxRecDepth 100000 in
set_option maxHeartbeats 2000000 in
theorem floors_good {w : World} {m : Int} {s : Nat} (h : Gd m s) :
    Calls Tryd.prog 5 #[.agg #[.int .i64 m, .int .i64 (s : Nat)]] w fun e w' => e = .returned (.bool true) ∧ Below w.heap.size w w' := by
  obtain ⟨hr0, hr1, hr2⟩ := rest_ok h
  obtain ⟨hrg, hrv⟩ := sub_ok hr0
  have hf := gd_floor h
  have HK := Lib.hid (fun W : World => known4_any W)
  have HC := Lib.hid (fun W : World => byes (w := W) h)
  have HF : Hid (∀ W : World, Calls Tryd.prog 15 #[.agg #[.int .i64 m, .int .i64 (s : Nat)]] W fun e w' => e = .returned (.tuple #[.agg #[.int .i64 (m / 10 ^ s), .int .i64 0], .int .i64 0]) ∧ Below W.heap.size W w') := Lib.hid (fun W => floor_any h)
  have HS : Hid (∀ W : World, Calls Tryd.prog 19 #[.agg #[.int .i64 m, .int .i64 (s : Nat)], .agg #[.int .i64 (m / 10 ^ s), .int .i64 0]] W fun e w' => e = .returned (.tuple #[.agg #[.int .i64 (subD m s (m / 10 ^ s) 0).m, .int .i64 ((subD m s (m / 10 ^ s) 0).s : Nat)], .int .i64 0]) ∧ Below W.heap.size W w') := Lib.hid (fun W => by
    have := dsub_any (w := W) h hf
    rw [dv_parts, hr0] at this
    exact this)
  have HAD : Hid (∀ W : World, Calls Tryd.prog 18 #[.agg #[.int .i64 (m / 10 ^ s), .int .i64 0], .agg #[.int .i64 (subD m s (m / 10 ^ s) 0).m, .int .i64 ((subD m s (m / 10 ^ s) 0).s : Nat)]] W fun e w' => e = .returned (.tuple #[.agg #[.int .i64 m, .int .i64 (s : Nat)], .int .i64 0]) ∧ Below W.heap.size W w') := Lib.hid (fun W => by
    have := dadd_any (w := W) hf hrg
    rw [show addD (m / 10 ^ s) 0 (subD m s (m / 10 ^ s) 0).m (subD m s (m / 10 ^ s) 0).s = ⟨m, s, 0⟩ by
      unfold addD
      rw [hrv, show val (m / 10 ^ s) 0 + (val m s - val (m / 10 ^ s) 0) = val m s by omega, tl_val h]] at this
    exact this)
  rw [← hrv] at hr1 hr2
  have HC0 : Hid (∀ W : World, Calls Tryd.prog 20 #[.agg #[.int .i64 (subD m s (m / 10 ^ s) 0).m, .int .i64 ((subD m s (m / 10 ^ s) 0).s : Nat)], .agg #[.int .i64 0, .int .i64 0]] W fun e w' => e = .returned (.int .i64 (cmp (val (subD m s (m / 10 ^ s) 0).m (subD m s (m / 10 ^ s) 0).s) (val 0 0))) ∧ Below W.heap.size W w') := Lib.hid (fun W => compare_any (w := W) hrg (show Gd 0 0 from ⟨by omega, by omega, by omega, .inl rfl⟩))
  have HC1 : Hid (∀ W : World, Calls Tryd.prog 20 #[.agg #[.int .i64 (subD m s (m / 10 ^ s) 0).m, .int .i64 ((subD m s (m / 10 ^ s) 0).s : Nat)], .agg #[.int .i64 1, .int .i64 0]] W fun e w' => e = .returned (.int .i64 (-1)) ∧ Below W.heap.size W w') := Lib.hid (fun W => by
    have := compare_any (w := W) hrg (show Gd 1 0 from ⟨by omega, by omega, by omega, .inl rfl⟩)
    rw [show cmp (val (subD m s (m / 10 ^ s) 0).m (subD m s (m / 10 ^ s) 0).s) (val 1 0) = -1 by unfold cmp; rw [if_pos (by rw [val_whole 1]; omega)]] at this
    exact this)
  have HX0 := Lib.hid (show decide (cmp (val (subD m s (m / 10 ^ s) 0).m (subD m s (m / 10 ^ s) 0).s) (val 0 0) < 0) = false from decide_eq_false (Int.not_lt.2 ((cmp_pos _ _).2 (by rw [val_whole 0]; omega))))
  clear hr0 hr1 hr2 hrg hrv hf h
  generalize cmp (val (subD m s (m / 10 ^ s) 0).m (subD m s (m / 10 ^ s) 0).s) (val 0 0) = X at *
  generalize (subD m s (m / 10 ^ s) 0).m = p at *
  generalize (subD m s (m / 10 ^ s) 0).s = q at *
  generalize m / 10 ^ s = F at *
  have HO := Lib.hid (fun W : World => of_any (w := W) (m := m) (s := s))
  have H0 := Lib.hid (sb1 w 23 #[.int .i64 m, .int .i64 (s : Nat)])
  go_enter Tryd.func5, Tryd.ntmps5
  go_wp2_with fail
  refine (HK.out _).mono ?_
  rintro e w1 ⟨rfl, hb⟩
  have HB := Lib.hid (H0.out.call hb)
  clear hb H0
  have q0 := HB.out.bk _ (.head _)
  have c00 := q0.cell 0
  have c01 := q0.cell 1
  clear q0
  go_wp2_with fail
  refine (HO.out _).mono ?_
  rintro e w2 ⟨rfl, hb⟩
  clear c00 c01
  have HB2 := Lib.hid (HB.out.call hb)
  clear hb HB
  have HB := HB2
  clear HB2
  have q0 := HB.out.bk _ (.head _)
  have c00 := q0.cell 0
  have c01 := q0.cell 1
  clear q0
  go_wp2_with fail
  refine (HC.out _).mono ?_
  rintro e w3 ⟨rfl, hb⟩
  clear c00 c01
  have HB3 := Lib.hid (HB.out.call hb)
  clear hb HB
  have HB := HB3
  clear HB3
  have q0 := HB.out.bk _ (.head _)
  have c00 := q0.cell 0
  have c01 := q0.cell 1
  clear q0
  go_wp2_with fail
  refine (HF.out _).mono ?_
  rintro e w4 ⟨rfl, hb⟩
  clear c00 c01
  have HB4 := Lib.hid ((HB.out.call hb).alloc 23 #[.int .i64 F, .int .i64 0])
  clear hb HB
  have HB := HB4
  clear HB4
  have q0 := HB.out.bk _ (.head _)
  have c00 := q0.cell 0
  have c01 := q0.cell 1
  clear q0
  have q1 := HB.out.bk _ (.tail _ (.head _))
  have c10 := q1.cell 0
  have c11 := q1.cell 1
  clear q1
  go_wp2_with fail
  refine (HS.out _).mono ?_
  rintro e w5 ⟨rfl, hb⟩
  clear c00 c01 c10 c11
  have HB5 := Lib.hid ((HB.out.call hb).alloc 23 #[.int .i64 p, .int .i64 (q : Nat)])
  clear hb HB
  have HB := HB5
  clear HB5
  go_wp2_with fail
  refine wp_region_phases (S := (S1 w 1 ([(w5.heap.size, 23, #[.int .i64 p, .int .i64 (q : Nat)]), (w4.heap.size, 23, #[.int .i64 F, .int .i64 0]), (w.heap.size, 23, #[.int .i64 m, .int .i64 (s : Nat)])] : List (Nat × TypeId × Array Value)) ([(w5.heap.size, 23, #[.int .i64 p, .int .i64 (q : Nat)]), (w4.heap.size, 23, #[.int .i64 F, .int .i64 0]), (w.heap.size, 23, #[.int .i64 m, .int .i64 (s : Nat)])] : List (Nat × TypeId × Array Value)))) (E := (fun _ _ => True)) [] [(1, Is (.pointer (some ⟨w.heap.size, 0, none⟩))), (3, Is (.pointer (some ⟨w4.heap.size, 0, none⟩))), (5, Is (.pointer (some ⟨w5.heap.size, 0, none⟩))), (6, Is (.int .i64 0))] [(30, Is (.int .i64 0)), (31, Is (.bool false)), (32, Is (.bool false)), (33, Is (.pointer (some ⟨w4.heap.size, 1, none⟩))), (34, Is (.int .i64 0)), (35, Is (.bool false)), (36, Is (.bool false)), (37, Is (.bool false)), (38, Is (.agg #[.int .i64 p, .int .i64 (q : Nat)])), (39, Is (.agg #[.int .i64 0, .int .i64 0])), (40, Is (.int .i64 X)), (41, Is (.bool false)), (42, Is (.bool false)), (43, Is (.bool false)), (44, Is (.agg #[.int .i64 p, .int .i64 (q : Nat)])), (45, Is (.agg #[.int .i64 1, .int .i64 0])), (46, Is (.int .i64 (-1))), (47, Is (.bool false)), (48, Is (.bool false))]
    [.op [6] none, .op [30] none, .op [31] none, .op [3, 32] (some (32, false)), .op [33, 32] (some (32, false)), .op [34, 32] (some (32, false)), .op [32, 35] none, .op [36] none, .op [5, 37] (some (37, false)), .op [37] (some (37, false)), .op [38, 39, 37] (some (37, false)), .op [40, 37] (some (37, false)), .op [37, 41] none, .op [42] none, .op [5, 43] (some (43, false)), .op [43] (some (43, false)), .op [44, 45, 43] (some (43, false)), .op [46, 43] (some (43, false)), .op [43, 47] none] (by as_aux_lemma => kernel_rfl) ?_ ?_ ?_ ?_ ?_ ⟨stable_is _ _, stable_is _ _, stable_is _ _, stable_is _ _, stable_is _ _, stable_is _ _, stable_is _ _, stable_is _ _, stable_is _ _, stable_is _ _, stable_is _ _, stable_is _ _, stable_is _ _, stable_is _ _, stable_is _ _, stable_is _ _, stable_is _ _, stable_is _ _, stable_is _ _, stable_is _ _, stable_is _ _, stable_is _ _, stable_is _ _, trivial⟩ ?_ (HB.out.drew) ?_ ?_
  · as_aux_lemma => kernel_rfl
  · as_aux_lemma => kernel_rfl
  · as_aux_lemma => kernel_rfl
  · as_aux_lemma => kernel_rfl
  · as_aux_lemma => kernel_rfl
  · exact ⟨rfl, rfl, rfl, rfl, trivial⟩
  · refine ⟨?_, ?_, ?_, ?_, ?_, ?_, ?_, ?_, ?_, ?_, ?_, ?_, ?_, ?_, ?_, ?_, ?_, ?_, ?_, trivial⟩
    · as_aux_lemma =>
        intro vals a W hS hL
        have e6 : a.tmps.getD 6 undef = .int .i64 0 := hL.1
        clear hL
        go_simp
        exact ⟨⟨fun d hd => by injection hd with hd; subst hd; rfl, fun h => by cases h⟩, hS, trivial⟩
    · as_aux_lemma =>
        intro vals a W hS hL
        have e30 : a.tmps.getD 30 undef = .int .i64 0 := hL.1
        clear hL
        go_simp
        exact ⟨⟨fun d hd => by injection hd with hd; subst hd; rfl, fun h => by cases h⟩, hS, trivial⟩
    · as_aux_lemma =>
        intro vals a W hS hL
        have e31 : a.tmps.getD 31 undef = .bool false := hL.1
        clear hL
        go_simp
        exact ⟨⟨fun d hd => by injection hd with hd; subst hd; rfl, fun h => by cases h⟩, hS, trivial⟩
    · as_aux_lemma =>
        intro vals a W hS hL
        have e3 : a.tmps.getD 3 undef = .pointer (some ⟨w4.heap.size, 0, none⟩) := hL.1
        have e32 : a.tmps.getD 32 undef = .bool false := hL.2.1
        clear hL
        refine ⟨false, e32, ?_⟩
        rw [if_pos rfl]
        go_simp
        exact ⟨⟨fun d hd => by injection hd with hd; subst hd; rfl, fun h => by cases h⟩, hS, trivial⟩
    · as_aux_lemma =>
        intro vals a W hS hL
        have e33 : a.tmps.getD 33 undef = .pointer (some ⟨w4.heap.size, 1, none⟩) := hL.1
        have e32 : a.tmps.getD 32 undef = .bool false := hL.2.1
        clear hL
        refine ⟨false, e32, ?_⟩
        rw [if_pos rfl]
        have kb : Bk W w4.heap.size 23 #[.int .i64 F, .int .i64 0] := hS.bk (.tail _ (.head _)) (.tail _ (.head _))
        have f1 := kb.cell 1
        clear kb
        go_simp
        exact ⟨⟨fun d hd => by injection hd with hd; subst hd; rfl, fun h => by cases h⟩, hS, trivial⟩
    · as_aux_lemma =>
        intro vals a W hS hL
        have e34 : a.tmps.getD 34 undef = .int .i64 0 := hL.1
        have e32 : a.tmps.getD 32 undef = .bool false := hL.2.1
        clear hL
        refine ⟨false, e32, ?_⟩
        rw [if_pos rfl]
        go_simp
        exact ⟨⟨fun d hd => by injection hd with hd; subst hd; rfl, fun h => by cases h⟩, hS, trivial⟩
    · as_aux_lemma =>
        intro vals a W hS hL
        have e32 : a.tmps.getD 32 undef = .bool false := hL.1
        have e35 : a.tmps.getD 35 undef = .bool false := hL.2.1
        clear hL
        go_simp
        exact ⟨⟨fun d hd => by injection hd with hd; subst hd; rfl, fun h => by cases h⟩, hS, trivial⟩
    · as_aux_lemma =>
        intro vals a W hS hL
        have e36 : a.tmps.getD 36 undef = .bool false := hL.1
        clear hL
        go_simp
        exact ⟨⟨fun d hd => by injection hd with hd; subst hd; rfl, fun h => by cases h⟩, hS, trivial⟩
    · as_aux_lemma =>
        intro vals a W hS hL
        have e5 : a.tmps.getD 5 undef = .pointer (some ⟨w5.heap.size, 0, none⟩) := hL.1
        have e37 : a.tmps.getD 37 undef = .bool false := hL.2.1
        clear hL
        refine ⟨false, e37, ?_⟩
        rw [if_pos rfl]
        have kb : Bk W w5.heap.size 23 #[.int .i64 p, .int .i64 (q : Nat)] := hS.bk (.head _) (.head _)
        have f0 := kb.cell 0
        have f1 := kb.cell 1
        clear kb
        go_simp
        exact ⟨⟨fun d hd => by injection hd with hd; subst hd; rfl, fun h => by cases h⟩, hS, trivial⟩
    · as_aux_lemma =>
        intro vals a W hS hL
        have e37 : a.tmps.getD 37 undef = .bool false := hL.1
        clear hL
        refine ⟨false, e37, ?_⟩
        rw [if_pos rfl]
        go_simp
        refine (int_any).mono ?_
        rintro e W' ⟨rfl, hb⟩
        exact ⟨_, rfl, ⟨fun d hd => by injection hd with hd; subst hd; rfl, fun h => by cases h⟩, hS.call hb, trivial⟩
    · as_aux_lemma =>
        intro vals a W hS hL
        have e38 : a.tmps.getD 38 undef = .agg #[.int .i64 p, .int .i64 (q : Nat)] := hL.1
        have e39 : a.tmps.getD 39 undef = .agg #[.int .i64 0, .int .i64 0] := hL.2.1
        have e37 : a.tmps.getD 37 undef = .bool false := hL.2.2.1
        clear hL
        refine ⟨false, e37, ?_⟩
        rw [if_pos rfl]
        go_simp
        refine (HC0.out W).mono ?_
        rintro e W' ⟨rfl, hb⟩
        exact ⟨_, rfl, ⟨fun d hd => by injection hd with hd; subst hd; rfl, fun h => by cases h⟩, hS.call hb, trivial⟩
    · as_aux_lemma =>
        intro vals a W hS hL
        have e40 : a.tmps.getD 40 undef = .int .i64 X := hL.1
        have e37 : a.tmps.getD 37 undef = .bool false := hL.2.1
        clear hL
        refine ⟨false, e37, ?_⟩
        rw [if_pos rfl]
        have hx := HX0.out
        go_simp
        exact ⟨⟨fun d hd => by injection hd with hd; subst hd; rfl, fun h => by cases h⟩, hS, trivial⟩
    · as_aux_lemma =>
        intro vals a W hS hL
        have e37 : a.tmps.getD 37 undef = .bool false := hL.1
        have e41 : a.tmps.getD 41 undef = .bool false := hL.2.1
        clear hL
        go_simp
        exact ⟨⟨fun d hd => by injection hd with hd; subst hd; rfl, fun h => by cases h⟩, hS, trivial⟩
    · as_aux_lemma =>
        intro vals a W hS hL
        have e42 : a.tmps.getD 42 undef = .bool false := hL.1
        clear hL
        go_simp
        exact ⟨⟨fun d hd => by injection hd with hd; subst hd; rfl, fun h => by cases h⟩, hS, trivial⟩
    · as_aux_lemma =>
        intro vals a W hS hL
        have e5 : a.tmps.getD 5 undef = .pointer (some ⟨w5.heap.size, 0, none⟩) := hL.1
        have e43 : a.tmps.getD 43 undef = .bool false := hL.2.1
        clear hL
        refine ⟨false, e43, ?_⟩
        rw [if_pos rfl]
        have kb : Bk W w5.heap.size 23 #[.int .i64 p, .int .i64 (q : Nat)] := hS.bk (.head _) (.head _)
        have f0 := kb.cell 0
        have f1 := kb.cell 1
        clear kb
        go_simp
        exact ⟨⟨fun d hd => by injection hd with hd; subst hd; rfl, fun h => by cases h⟩, hS, trivial⟩
    · as_aux_lemma =>
        intro vals a W hS hL
        have e43 : a.tmps.getD 43 undef = .bool false := hL.1
        clear hL
        refine ⟨false, e43, ?_⟩
        rw [if_pos rfl]
        go_simp
        refine (int_any).mono ?_
        rintro e W' ⟨rfl, hb⟩
        exact ⟨_, rfl, ⟨fun d hd => by injection hd with hd; subst hd; rfl, fun h => by cases h⟩, hS.call hb, trivial⟩
    · as_aux_lemma =>
        intro vals a W hS hL
        have e44 : a.tmps.getD 44 undef = .agg #[.int .i64 p, .int .i64 (q : Nat)] := hL.1
        have e45 : a.tmps.getD 45 undef = .agg #[.int .i64 1, .int .i64 0] := hL.2.1
        have e43 : a.tmps.getD 43 undef = .bool false := hL.2.2.1
        clear hL
        refine ⟨false, e43, ?_⟩
        rw [if_pos rfl]
        go_simp
        refine (HC1.out W).mono ?_
        rintro e W' ⟨rfl, hb⟩
        exact ⟨_, rfl, ⟨fun d hd => by injection hd with hd; subst hd; rfl, fun h => by cases h⟩, hS.call hb, trivial⟩
    · as_aux_lemma =>
        intro vals a W hS hL
        have e46 : a.tmps.getD 46 undef = .int .i64 (-1) := hL.1
        have e43 : a.tmps.getD 43 undef = .bool false := hL.2.1
        clear hL
        refine ⟨false, e43, ?_⟩
        rw [if_pos rfl]
        go_simp
        exact ⟨⟨fun d hd => by injection hd with hd; subst hd; rfl, fun h => by cases h⟩, hS, trivial⟩
    · as_aux_lemma =>
        intro vals a W hS hL
        have e43 : a.tmps.getD 43 undef = .bool false := hL.1
        have e47 : a.tmps.getD 47 undef = .bool false := hL.2.1
        clear hL
        go_simp
        exact ⟨⟨fun d hd => by injection hd with hd; subst hd; rfl, fun h => by cases h⟩, hS, trivial⟩
  · intro a W' vals hd hsz hT hF hv hP hS
    obtain rfl : vals = [] := List.eq_nil_of_length_eq_zero hv
    have hB : SB w 1 ([(w5.heap.size, 23, #[.int .i64 p, .int .i64 (q : Nat)]), (w4.heap.size, 23, #[.int .i64 F, .int .i64 0]), (w.heap.size, 23, #[.int .i64 m, .int .i64 (s : Nat)])] : List (Nat × TypeId × Array Value)) W' := hS
    clear hS
    have e1 : a.tmps.getD 1 undef = .pointer (some ⟨w.heap.size, 0, none⟩) := hT 1 (by simp)
    have e3 : a.tmps.getD 3 undef = .pointer (some ⟨w4.heap.size, 0, none⟩) := hT 3 (by simp)
    have e5 : a.tmps.getD 5 undef = .pointer (some ⟨w5.heap.size, 0, none⟩) := hT 5 (by simp)
    have e48 : a.tmps.getD 48 undef = .bool false := hT 48 (by simp)
    clear hT hF hP
    rw [act_lit 62 a hd hsz]
    simp only [List.range, List.range.loop, List.map, e1, e3, e5, e48]
    clear e1 e3 e5 e48
    have k5 := hB.bk _ (List.mem_cons_self ..)
    have c50 := k5.cell 0
    have c51 := k5.cell 1
    clear k5
    have k4 := hB.bk _ (.tail _ (.head _))
    have c40 := k4.cell 0
    have c41 := k4.cell 1
    clear k4
    have k3 := hB.bk _ (.tail _ (.tail _ (.head _)))
    have c30 := k3.cell 0
    have c31 := k3.cell 1
    clear k3
    have HB2 := Lib.hid hB
    clear hB
    go_wp2_with fail
    refine (HAD.out _).mono ?_
    rintro e w6 ⟨rfl, hb⟩
    have hB := (HB2.out.call hb).alloc 23 #[.int .i64 m, .int .i64 (s : Nat)]
    clear hb HB2 c50 c51 c40 c41 c30 c31
    have k7 := hB.bk _ (List.mem_cons_self ..)
    have c70 := k7.cell 0
    have c71 := k7.cell 1
    clear k7
    have k3 := hB.bk _ (.tail _ (.tail _ (.tail _ (.head _))))
    have c30 := k3.cell 0
    have c31 := k3.cell 1
    clear k3
    have hbel := hB.bel
    clear hB
    go_wp2
    go_ret
    exact ⟨rfl, hbel⟩

theorem floors_any {w : World} {m s : Int} (h0 : -9223372036854775808 ≤ m) (h1 : m ≤ 9223372036854775807) :
    Calls Tryd.prog 5 #[.agg #[.int .i64 m, .int .i64 s]] w fun e w' => e = .returned (.bool true) ∧ Below w.heap.size w w' := by
  rcases ckE_cases m s with hc | hc
  · obtain ⟨t, rfl, hg⟩ := gd_of hc h0 h1
    exact floors_good hg
  · have HK := Lib.hid (fun W : World => known4_any W)
    have HO := Lib.hid (fun W : World => of_any (w := W) (m := m) (s := s))
    have HC := Lib.hid (fun W : World => bnot (w := W) hc)
    have H0 := Lib.hid (sb1 w 23 #[.int .i64 m, .int .i64 s])
    clear hc h0 h1
    go_enter Tryd.func5, Tryd.ntmps5
    go_wp2_with fail
    refine (HK.out _).mono ?_
    rintro e w1 ⟨rfl, hb⟩
    have HB := Lib.hid (H0.out.call hb)
    clear hb H0
    have q0 := HB.out.bk _ (.head _)
    have c00 := q0.cell 0
    have c01 := q0.cell 1
    clear q0
    go_wp2_with fail
    refine (HO.out _).mono ?_
    rintro e w2 ⟨rfl, hb⟩
    clear c00 c01
    have HB2 := Lib.hid (HB.out.call hb)
    clear hb HB
    have HB := HB2
    clear HB2
    have q0 := HB.out.bk _ (.head _)
    have c00 := q0.cell 0
    have c01 := q0.cell 1
    clear q0
    go_wp2_with fail
    refine (HC.out _).mono ?_
    rintro e w3 ⟨rfl, hb⟩
    clear c00 c01
    have HB3 := Lib.hid (HB.out.call hb)
    clear hb HB
    have HB := HB3
    clear HB3
    have hbel := HB.out.bel
    go_wp2
    go_ret
    exact ⟨rfl, hbel⟩
end Go.Proofs.YtfkfgfajdmacbaaDoor
