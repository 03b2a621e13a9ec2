/- dec: full, Add, Sub, Compare, Norm by their contracts. Condition: what is handed in stands. -/
import Derived.Test.YtmbjmgmnicacpaaDoorD1
namespace Go.Proofs.YtmbjmgmnicacpaaDoor
open Go.RowKit

theorem full_lt {m : Int} {s : Nat} (h : Gd m s) : m.natAbs * 10 ^ (9 - s) ≤ 9223372036854775808000000000 := by
  have h1 := h.lo
  have h2 := h.hi
  have h3 : 10 ^ (9 - s) ≤ 10 ^ 9 := pow10_le (by omega)
  exact Nat.le_trans (Nat.mul_le_mul (show m.natAbs ≤ 9223372036854775808 by omega) h3) (by decide)
theorem val_sgn (m : Int) (s : Nat) : sgn (decide (m < 0)) (m.natAbs * 10 ^ (9 - s)) = val m s := by
  rw [sgn_mul, sgn_natAbs]; unfold val; simp
theorem sgn_not (b : Bool) (n : Nat) : sgn (!b) n = -sgn b n := by unfold sgn; cases b <;> simp

set_option maxRecDepth 100000 in
set_option maxHeartbeats 2000000 in
theorem full_any {w : World} {m : Int} {s : Nat} (h : Gd m s) :
    Calls Tryd.prog 31 #[.agg #[.int .i64 m, .int .i64 (s : Nat)]] w fun e w' => e = .returned (wd (decide (m < 0)) (m.natAbs * 10 ^ (9 - s))) ∧ Below w.heap.size w w' := by
  have hf := full_lt h
  have hp : 10 ^ (9 - s) ≤ 10 ^ 9 := pow10_le (by omega)
  have HW := Lib.hid (fun W : World => widen_any (w := W) h.lo h.hi)
  have HP := Lib.hid (fun W : World => power_b (w := W) (k := 9 - s) (by omega))
  have HT := Lib.hid (fun W : World => times_any (w := W) (b := decide (m < 0)) (n := m.natAbs) (k := 10 ^ (9 - s)) (by omega) (by omega))
  have HS := Lib.hid (show IntKind.i64.wrap (9 - (s : Int)) = ((9 - s : Nat) : Int) by have := h.s9; rw [show ((9 - s : Nat) : Int) = 9 - (s : Int) by omega]; exact IntWalk.i64_in _ (by omega))
  have HSB : Hid (SB w 2 ([((w.heap.size + 1), 59, #[.bool false, .int .u64 0, .int .u64 0]), (w.heap.size, 23, #[.int .i64 m, .int .i64 (s : Nat)])] : List (Nat × TypeId × Array Value)) ((w.alloc (.cells #[.int .i64 m, .int .i64 (s : Nat)] 23)).alloc (.cells #[.bool false, .int .u64 0, .int .u64 0] 59))) := Lib.hid ((sb1 w 23 _).push (by simp) 59 _)
  clear hf hp h
  generalize decide (m < 0) = b at *
  generalize m.natAbs = M at *
  generalize 10 ^ (9 - s) = K at *
  go_enter Tryd.func31, Tryd.ntmps31
  go_wp2
  refine wp_region_phases (S := (S1 w 2 ([((w.heap.size + 1), 59, #[.bool false, .int .u64 0, .int .u64 0]), (w.heap.size, 23, #[.int .i64 m, .int .i64 (s : Nat)])] : List (Nat × TypeId × Array Value)) ([((w.heap.size + 1), 59, #[.bool b, .int .u64 (hi (M * K) : Nat), .int .u64 (lo (M * K) : Nat)]), (w.heap.size, 23, #[.int .i64 m, .int .i64 (s : Nat)])] : List (Nat × TypeId × Array Value)))) (E := (fun _ _ => True)) [8] [(1, Is (.pointer (some ⟨w.heap.size, 0, none⟩))), (2, Is (.pointer (some ⟨(w.heap.size + 1), 0, none⟩)))] [(3, Is (.pointer (some ⟨w.heap.size, 0, none⟩))), (4, Is (.int .i64 m)), (5, Is (.agg #[.bool b, .int .u64 (hi (M) : Nat), .int .u64 (lo (M) : Nat)])), (6, Is (.pointer (some ⟨w.heap.size, 1, none⟩))), (7, Is (.int .i64 (s : Nat))), (8, Is (.int .i64 ((9 - s : Nat) : Int))), (9, Is (.int .u64 (K : Nat))), (10, Is (.agg #[.bool b, .int .u64 (hi (M * K) : Nat), .int .u64 (lo (M * K) : Nat)]))]
    [.op [1] none, .op [3] none, .op [4] none, .op [1] none, .op [6] none, .op [7] none, .op [8] none, .op [5, 9] none, .phase 0 [2, 10] []] (by as_aux_lemma => kernel_rfl) ?_ ?_ ?_ ?_ ?_ ⟨stable_is _ _, stable_is _ _, stable_is _ _, stable_is _ _, stable_is _ _, stable_is _ _, stable_is _ _, stable_is _ _, stable_is _ _, stable_is _ _, trivial⟩ ?_ (HSB.out.drew) ?_ ?_
  · as_aux_lemma => kernel_rfl
  · as_aux_lemma => kernel_rfl
  · as_aux_lemma => kernel_rfl
  · as_aux_lemma => kernel_rfl
  · as_aux_lemma => kernel_rfl
  · exact ⟨rfl, rfl, trivial⟩
  · refine ⟨?_, ?_, ?_, ?_, ?_, ?_, ?_, ?_, ?_, trivial⟩
    · as_aux_lemma =>
        intro vals a W hS hL
        have e1 : a.tmps.getD 1 undef = .pointer (some ⟨w.heap.size, 0, none⟩) := hL.1
        clear hL
        go_simp
        exact ⟨⟨fun d hd => by injection hd with hd; subst hd; rfl, fun h => by cases h⟩, hS, trivial⟩
    · as_aux_lemma =>
        intro vals a W hS hL
        have e3 : a.tmps.getD 3 undef = .pointer (some ⟨w.heap.size, 0, none⟩) := hL.1
        clear hL
        have kb : Bk W w.heap.size 23 #[.int .i64 m, .int .i64 (s : Nat)] := hS.bk (.tail _ (.head _)) (.tail _ (.head _))
        have f0 := kb.cell 0
        clear kb
        go_simp
        exact ⟨⟨fun d hd => by injection hd with hd; subst hd; rfl, fun h => by cases h⟩, hS, trivial⟩
    · as_aux_lemma =>
        intro vals a W hS hL
        have e4 : a.tmps.getD 4 undef = .int .i64 m := hL.1
        clear hL
        go_simp
        refine (HW.out W).mono ?_
        rintro e W' ⟨rfl, hb⟩
        exact ⟨_, rfl, ⟨fun d hd => by injection hd with hd; subst hd; rfl, fun h => by cases h⟩, hS.call hb, trivial⟩
    · as_aux_lemma =>
        intro vals a W hS hL
        have e1 : a.tmps.getD 1 undef = .pointer (some ⟨w.heap.size, 0, none⟩) := hL.1
        clear hL
        go_simp
        exact ⟨⟨fun d hd => by injection hd with hd; subst hd; rfl, fun h => by cases h⟩, hS, trivial⟩
    · as_aux_lemma =>
        intro vals a W hS hL
        have e6 : a.tmps.getD 6 undef = .pointer (some ⟨w.heap.size, 1, none⟩) := hL.1
        clear hL
        have kb : Bk W w.heap.size 23 #[.int .i64 m, .int .i64 (s : Nat)] := hS.bk (.tail _ (.head _)) (.tail _ (.head _))
        have f1 := kb.cell 1
        clear kb
        go_simp
        exact ⟨⟨fun d hd => by injection hd with hd; subst hd; rfl, fun h => by cases h⟩, hS, trivial⟩
    · as_aux_lemma =>
        intro vals a W hS hL
        have e7 : a.tmps.getD 7 undef = .int .i64 (s : Nat) := hL.1
        clear hL
        have hs := HS.out
        go_simp
        exact ⟨⟨fun d hd => by injection hd with hd; subst hd; rfl, fun h => by cases h⟩, hS, trivial⟩
    · as_aux_lemma =>
        intro vals a W hS hL
        have e8 : a.tmps.getD 8 undef = .int .i64 ((9 - s : Nat) : Int) := hL.1
        clear hL
        go_simp
        refine (HP.out W).mono ?_
        rintro e W' ⟨rfl, hb⟩
        exact ⟨_, rfl, ⟨fun d hd => by injection hd with hd; subst hd; rfl, fun h => by cases h⟩, hS.call hb, trivial⟩
    · as_aux_lemma =>
        intro vals a W hS hL
        have e5 : a.tmps.getD 5 undef = .agg #[.bool b, .int .u64 (hi (M) : Nat), .int .u64 (lo (M) : Nat)] := hL.1
        have e9 : a.tmps.getD 9 undef = .int .u64 (K : Nat) := hL.2.1
        clear hL
        go_simp
        refine (HT.out W).mono ?_
        rintro e W' ⟨rfl, hb⟩
        exact ⟨_, rfl, ⟨fun d hd => by injection hd with hd; subst hd; rfl, fun h => by cases h⟩, hS.call hb, trivial⟩
    · as_aux_lemma =>
        intro a W vals hv hS hL hp
        have e2 : a.tmps.getD 2 undef = .pointer (some ⟨(w.heap.size + 1), 0, none⟩) := hL.1
        have e10 : a.tmps.getD 10 undef = .agg #[.bool b, .int .u64 (hi (M * K) : Nat), .int .u64 (lo (M * K) : Nat)] := hL.2.1
        clear hL
        match vals, hv, hS with
        | [], _, hS =>
          have hB : SB w 2 ([((w.heap.size + 1), 59, #[.bool false, .int .u64 0, .int .u64 0]), (w.heap.size, 23, #[.int .i64 m, .int .i64 (s : Nat)])] : List (Nat × TypeId × Array Value)) W := hS
          have kz := hB.bk _ (List.mem_cons_self ..)
          have hlt : ∀ x ∈ ([(w.heap.size, 23, #[.int .i64 m, .int .i64 (s : Nat)])] : List (Nat × TypeId × Array Value)), x.1 ≠ (w.heap.size + 1) := by simp <;> omega
          have z0 := kz.frozen 0
          have q0 := kz.cell 0
          have z1 := kz.frozen 1
          have q1 := kz.cell 1
          have z2 := kz.frozen 2
          have q2 := kz.cell 2
          have hF := hB.set3 (by omega) hlt (.bool b : Value) (.int .u64 (hi (M * K) : Nat) : Value) (.int .u64 (lo (M * K) : Nat) : Value)
          rw [Array.getD_eq_getD_getElem?] at e10
          clear hS kz hB
          go_simp
          exact ⟨hF, trivial, trivial⟩
  · intro a W' vals hd hsz hT hF hv _ hS
    obtain ⟨u, rfl⟩ : ∃ u, vals = [u] := by
      match vals, hv with
      | [u], _ => exact ⟨u, rfl⟩
    have hB : SB w 2 ([((w.heap.size + 1), 59, #[.bool b, .int .u64 (hi (M * K) : Nat), .int .u64 (lo (M * K) : Nat)]), (w.heap.size, 23, #[.int .i64 m, .int .i64 (s : Nat)])] : List (Nat × TypeId × Array Value)) W' := hS
    have kz := hB.bk _ (List.mem_cons_self ..)
    have r0 := kz.cell 0
    have r1 := kz.cell 1
    have r2 := kz.cell 2
    clear kz hS
    have e2 : a.tmps.getD 2 undef = .pointer (some ⟨(w.heap.size + 1), 0, none⟩) := hT 2 (by simp)
    clear hT hF
    go_wp2
    refine bodyPost_ret (v := .agg #[.bool b, .int .u64 (hi (M * K) : Nat), .int .u64 (lo (M * K) : Nat)]) ?_ hd ⟨rfl, hB.bel⟩
    rw [Array.getD_eq_getD_getElem?] at e2
    simp [results, Tryd.results31, go_sem, e2, r0, r1, r2]

set_option maxRecDepth 100000 in
set_option maxHeartbeats 2000000 in
theorem compare_any {w : World} {m n : Int} {s t : Nat} (hx : Gd m s) (hy : Gd n t) :
    Calls Tryd.prog 10 #[.agg #[.int .i64 m, .int .i64 (s : Nat)], .agg #[.int .i64 n, .int .i64 (t : Nat)]] w fun e w' => e = .returned (.int .i64 (cmp (val m s) (val n t))) ∧ Below w.heap.size w w' := by
  have HK := Lib.hid (fun W : World => taken_any (w := W) hx hy)
  have HX := Lib.hid (fun W : World => full_any (w := W) hx)
  have HY := Lib.hid (fun W : World => full_any (w := W) hy)
  have f1 := full_lt hx
  have f2 := full_lt hy
  have HV := Lib.hid (show cmp (val m s) (val n t) = cmp (sgn (adb (decide (m < 0)) (!decide (n < 0)) (m.natAbs * 10 ^ (9 - s)) (n.natAbs * 10 ^ (9 - t))) (adn (decide (m < 0)) (!decide (n < 0)) (m.natAbs * 10 ^ (9 - s)) (n.natAbs * 10 ^ (9 - t)))) 0 by
    rw [ad_sgn, sgn_not, val_sgn, val_sgn, ← Int.sub_eq_add_neg, cmp_sub])
  generalize decide (m < 0) = c at *
  generalize decide (n < 0) = d at *
  generalize m.natAbs * 10 ^ (9 - s) = M at *
  generalize n.natAbs * 10 ^ (9 - t) = N at *
  have HN := Lib.hid (fun W : World => negate_any (w := W) (b := d) (n := N))
  have HA := Lib.hid (fun W : World => add_any (w := W) (a := c) (b := !d) (m := M) (n := N) (by omega))
  have HT := Lib.hid (fun W : World => sign_any (w := W) (b := adb c (!d) M N) (n := adn c (!d) M N))
  clear f1 f2 hx hy
  have H0 : Hid (SB w 2 ([((w.heap.size + 1), 23, #[.int .i64 n, .int .i64 (t : Nat)]), (w.heap.size, 23, #[.int .i64 m, .int .i64 (s : Nat)])] : List (Nat × TypeId × Array Value)) ((w.alloc (.cells #[.int .i64 m, .int .i64 (s : Nat)] 23)).alloc (.cells #[.int .i64 n, .int .i64 (t : Nat)] 23))) := Lib.hid ((sb1 w 23 _).push (by simp) 23 _)
  go_enter Tryd.func10, Tryd.ntmps10
  go_wp2_with fail
  refine (HK.out _).mono ?_
  rintro e w1 ⟨rfl, hb⟩
  have HSB := Lib.hid (H0.out.call hb)
  clear H0 hb
  go_wp2
  refine wp_region_phases (S := (S1 w 2 ([((w.heap.size + 1), 23, #[.int .i64 n, .int .i64 (t : Nat)]), (w.heap.size, 23, #[.int .i64 m, .int .i64 (s : Nat)])] : List (Nat × TypeId × Array Value)) ([((w.heap.size + 1), 23, #[.int .i64 n, .int .i64 (t : Nat)]), (w.heap.size, 23, #[.int .i64 m, .int .i64 (s : Nat)])] : List (Nat × TypeId × Array Value)))) (E := (fun _ _ => True)) [] [(2, Is (.pointer (some ⟨w.heap.size, 0, none⟩))), (3, Is (.pointer (some ⟨(w.heap.size + 1), 0, none⟩)))] [(9, Is (.agg #[.int .i64 m, .int .i64 (s : Nat)])), (10, Is (wd c M)), (11, Is (.agg #[.int .i64 n, .int .i64 (t : Nat)])), (12, Is (wd d N)), (13, Is (wd (!d) N)), (14, Is (wd (adb c (!d) M N) (adn c (!d) M N))), (15, Is (.int .i64 (cmp (sgn (adb c (!d) M N) (adn c (!d) M N)) 0))), (4, Is (.int .i64 (cmp (sgn (adb c (!d) M N) (adn c (!d) M N)) 0)))]
    [.op [2] none, .op [9] none, .op [3] none, .op [11] none, .op [12] none, .op [10, 13] none, .op [14] none, .op [15] none] (by as_aux_lemma => kernel_rfl) ?_ ?_ ?_ ?_ ?_ ⟨stable_is _ _, stable_is _ _, stable_is _ _, stable_is _ _, stable_is _ _, stable_is _ _, stable_is _ _, stable_is _ _, stable_is _ _, stable_is _ _, trivial⟩ ?_ (HSB.out.drew) ?_ ?_
  · as_aux_lemma => kernel_rfl
  · as_aux_lemma => kernel_rfl
  · as_aux_lemma => kernel_rfl
  · as_aux_lemma => kernel_rfl
  · as_aux_lemma => kernel_rfl
  · exact ⟨rfl, rfl, trivial⟩
  · refine ⟨?_, ?_, ?_, ?_, ?_, ?_, ?_, ?_, trivial⟩
    · as_aux_lemma =>
        intro vals a W hS hL
        have e2 : a.tmps.getD 2 undef = .pointer (some ⟨w.heap.size, 0, none⟩) := hL.1
        clear hL
        have kb : Bk W w.heap.size 23 #[.int .i64 m, .int .i64 (s : Nat)] := hS.bk (.tail _ (.head _)) (.tail _ (.head _))
        have f0 := kb.cell 0
        have f1 := kb.cell 1
        clear kb
        go_simp
        exact ⟨⟨fun d hd => by injection hd with hd; subst hd; rfl, fun h => by cases h⟩, hS, trivial⟩
    · as_aux_lemma =>
        intro vals a W hS hL
        have e9 : a.tmps.getD 9 undef = .agg #[.int .i64 m, .int .i64 (s : Nat)] := hL.1
        clear hL
        go_simp
        refine (HX.out W).mono ?_
        rintro e W' ⟨rfl, hb⟩
        exact ⟨_, rfl, ⟨fun d hd => by injection hd with hd; subst hd; rfl, fun h => by cases h⟩, hS.call hb, trivial⟩
    · as_aux_lemma =>
        intro vals a W hS hL
        have e3 : a.tmps.getD 3 undef = .pointer (some ⟨(w.heap.size + 1), 0, none⟩) := hL.1
        clear hL
        have kb : Bk W (w.heap.size + 1) 23 #[.int .i64 n, .int .i64 (t : Nat)] := hS.bk (.head _) (.head _)
        have f0 := kb.cell 0
        have f1 := kb.cell 1
        clear kb
        go_simp
        exact ⟨⟨fun d hd => by injection hd with hd; subst hd; rfl, fun h => by cases h⟩, hS, trivial⟩
    · as_aux_lemma =>
        intro vals a W hS hL
        have e11 : a.tmps.getD 11 undef = .agg #[.int .i64 n, .int .i64 (t : Nat)] := hL.1
        clear hL
        go_simp
        refine (HY.out W).mono ?_
        rintro e W' ⟨rfl, hb⟩
        exact ⟨_, rfl, ⟨fun d hd => by injection hd with hd; subst hd; rfl, fun h => by cases h⟩, hS.call hb, trivial⟩
    · as_aux_lemma =>
        intro vals a W hS hL
        have e12 : a.tmps.getD 12 undef = wd d N := hL.1
        clear hL
        go_simp
        refine (HN.out W).mono ?_
        rintro e W' ⟨rfl, hb⟩
        exact ⟨_, rfl, ⟨fun d hd => by injection hd with hd; subst hd; rfl, fun h => by cases h⟩, hS.call hb, trivial⟩
    · as_aux_lemma =>
        intro vals a W hS hL
        have e10 : a.tmps.getD 10 undef = wd c M := hL.1
        have e13 : a.tmps.getD 13 undef = wd (!d) N := hL.2.1
        clear hL
        go_simp
        refine (HA.out W).mono ?_
        rintro e W' ⟨rfl, hb⟩
        exact ⟨_, rfl, ⟨fun d hd => by injection hd with hd; subst hd; rfl, fun h => by cases h⟩, hS.call hb, trivial⟩
    · as_aux_lemma =>
        intro vals a W hS hL
        have e14 : a.tmps.getD 14 undef = wd (adb c (!d) M N) (adn c (!d) M N) := hL.1
        clear hL
        go_simp
        refine (HT.out W).mono ?_
        rintro e W' ⟨rfl, hb⟩
        exact ⟨_, rfl, ⟨fun d hd => by injection hd with hd; subst hd; rfl, fun h => by cases h⟩, hS.call hb, trivial⟩
    · as_aux_lemma =>
        intro vals a W hS hL
        have e15 : a.tmps.getD 15 undef = .int .i64 (cmp (sgn (adb c (!d) M N) (adn c (!d) M N)) 0) := hL.1
        clear hL
        go_simp
        exact ⟨⟨fun d hd => by injection hd with hd; subst hd; rfl, fun h => by cases h⟩, hS, trivial⟩
  · intro a W' vals hd hsz hT hF hv _ hS
    obtain rfl : vals = [] := List.eq_nil_of_length_eq_zero hv
    have hB : SB w 2 ([((w.heap.size + 1), 23, #[.int .i64 n, .int .i64 (t : Nat)]), (w.heap.size, 23, #[.int .i64 m, .int .i64 (s : Nat)])] : List (Nat × TypeId × Array Value)) W' := hS
    clear hS
    have e4 : a.tmps.getD 4 undef = .int .i64 (cmp (sgn (adb c (!d) M N) (adn c (!d) M N)) 0) := hT 4 (by simp)
    clear hT hF
    go_wp2
    refine bodyPost_ret (v := .int .i64 (cmp (sgn (adb c (!d) M N) (adn c (!d) M N)) 0)) ?_ hd ⟨by rw [HV.out], hB.bel⟩
    rw [Array.getD_eq_getD_getElem?] at e4
    simp [results, Tryd.results10, go_sem, e4]

end Go.Proofs.YtmbjmgmnicacpaaDoor
