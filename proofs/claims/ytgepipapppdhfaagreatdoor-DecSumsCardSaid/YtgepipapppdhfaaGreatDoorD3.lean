/- dec: Mul by its contract. Condition: what is handed in stands. -/
import Derived.Test.YtgepipapppdhfaaGreatDoorD2
namespace Go.Proofs.YtgepipapppdhfaaGreatDoor
open Go.RowKit

theorem Gd.abs {m : Int} {s : Nat} (h : Gd m s) : m.natAbs ≤ 9223372036854775808 := by
  have h1 := h.lo
  have h2 := h.hi
  omega
theorem widen_small {w : World} {m : Int} {s : Nat} (h : Gd m s) :
    Calls Tryz.prog 34 #[.int .i64 m] w fun e w' => e = .returned (.agg #[.bool (decide (m < 0)), .int .u64 0, .int .u64 (m.natAbs : Nat)]) ∧ Below w.heap.size w w' := by
  have := widen_any (w := w) h.lo h.hi
  rw [wd_small (by have := h.abs; omega)] at this
  exact this
theorem rnd_zero (k : Nat) : rnd 0 k = 0 := by cases k <;> simp [rnd]
theorem sgn_zero (b : Bool) : sgn b 0 = 0 := by cases b <;> rfl
/-- A product's sign, rounded. -/
theorem sgn_rnd (m n : Int) (k : Nat) : sgn (decide (m < 0) != decide (n < 0)) (rnd (m.natAbs * n.natAbs) k) = rndI (m * n) k := by
  unfold rndI
  rw [Int.natAbs_mul]
  by_cases h0 : m.natAbs * n.natAbs = 0
  · rw [h0, rnd_zero, sgn_zero, sgn_zero]
  · have hm : m ≠ 0 := by rintro rfl; simp at h0
    have hn : n ≠ 0 := by rintro rfl; simp at h0
    congr 1
    rcases Int.lt_or_lt_of_ne hm with h1 | h1 <;> rcases Int.lt_or_lt_of_ne hn with h2 | h2
    · have h3 := Int.mul_pos_of_neg_of_neg h1 h2
      rw [decide_eq_true h1, decide_eq_true h2, decide_eq_false (by omega)]; rfl
    · have h3 := Int.mul_neg_of_neg_of_pos h1 h2
      rw [decide_eq_true h1, decide_eq_false (by omega), decide_eq_true h3]; rfl
    · have h3 := Int.mul_neg_of_pos_of_neg h1 h2
      rw [decide_eq_false (by omega), decide_eq_true h2, decide_eq_true h3]; rfl
    · have h3 := Int.mul_pos h1 h2
      rw [decide_eq_false (by omega), decide_eq_false (by omega), decide_eq_false (by omega)]; rfl

set_option maxRecDepth 100000 in
set_option maxHeartbeats 2000000 in
theorem mul_any {w : World} {m n : Int} {s t : Nat} (hx : Gd m s) (hy : Gd n t) :
    Calls Tryz.prog 13 #[.agg #[.int .i64 m, .int .i64 (s : Nat)], .agg #[.int .i64 n, .int .i64 (t : Nat)]] w fun e w' => e = .returned (dv (mulD m s n t)) ∧ Below w.heap.size w w' := by
  have HK := Lib.hid (fun W : World => taken_any (w := W) hx hy)
  have HX := Lib.hid (fun W : World => widen_any (w := W) hx.lo hx.hi)
  have HY := Lib.hid (fun W : World => widen_small (w := W) hy)
  have hs := hx.s9
  have ht := hy.s9
  have hxa := hx.abs
  have hya := hy.abs
  have hMN : m.natAbs * n.natAbs ≤ 9223372036854775808 * 9223372036854775808 := Nat.mul_le_mul hxa hya
  have HV := Lib.hid (show ∀ p k, p = min (s + t) 9 → k = s + t - 9 → mulD m s n t = tlb (decide (m < 0) != decide (n < 0)) (rnd (m.natAbs * n.natAbs) k) p by
    intro p k hp hk
    subst hp hk
    rw [tlb_eq, sgn_rnd]; rfl)
  have hc : decide (m < 0) = decide (m < 0) := rfl
  obtain ⟨c, hc⟩ : ∃ c, decide (m < 0) = c := ⟨_, rfl⟩
  obtain ⟨d, hd⟩ : ∃ d, decide (n < 0) = d := ⟨_, rfl⟩
  rw [hc] at HX HV
  rw [hd] at HY HV
  have HCD := Lib.hid (And.intro hc hd)
  clear hc hd hx hy hxa
  generalize m.natAbs = M at *
  generalize n.natAbs = N at *
  have hNb : N ≤ 9223372036854775808 := by omega
  have HT := Lib.hid (fun W : World => times_any (w := W) (b := c) (n := M) (k := N) (by omega) (by omega))
  have hP : M * N + 1 < 340282366920938463463374607431768211456 := by omega
  generalize M * N = P at *
  have H0 : Hid (SB w 3 ([((w.heap.size + 1 + 1), 23, #[.int .i64 0, .int .i64 0]), ((w.heap.size + 1), 23, #[.int .i64 n, .int .i64 (t : Nat)]), (w.heap.size, 23, #[.int .i64 m, .int .i64 (s : Nat)])] : List (Nat × TypeId × Array Value)) (((w.alloc (.cells #[.int .i64 m, .int .i64 (s : Nat)] 23)).alloc (.cells #[.int .i64 n, .int .i64 (t : Nat)] 23)).alloc (.cells #[.int .i64 0, .int .i64 0] 23))) := Lib.hid (((sb1 w 23 _).push (by simp) 23 _).push (by simp) 23 _)
  by_cases hst : 9 < s + t
  · have HP := Lib.hid hP
    have HST := Lib.hid hst
    have hs' : (s : Int) ≤ 9 := by omega
    have ht' : (t : Int) ≤ 9 := by omega
    have hst' : 9 < (s : Int) + (t : Int) := by omega
    have HD : Hid (∀ W : World, Calls Tryz.prog 35 #[.agg #[.bool (c != d), .int .u64 (hi P : Nat), .int .u64 (lo P : Nat)], .int .i64 ((s : Int) + (t : Int) - 9)] W fun e w' => e = .returned (.agg #[.bool (c != d), .int .u64 (hi (rnd P (s + t - 9)) : Nat), .int .u64 (lo (rnd P (s + t - 9)) : Nat)]) ∧ Below W.heap.size W w') := Lib.hid (fun W => by
      have := drop_any (w := W) (b := c != d) (n := P) (k := s + t - 9) hP (by omega)
      rw [show ((s + t - 9 : Nat) : Int) = (s : Int) + (t : Int) - 9 by omega] at this
      exact this)
    have HV2 := Lib.hid (HV.out 9 (s + t - 9) (by omega) rfl)
    have hR := rnd_le P (s + t - 9)
    generalize rnd P (s + t - 9) = Q at *
    have HTL : Hid (∀ W : World, Calls Tryz.prog 26 #[.agg #[.bool (c != d), .int .u64 (hi Q : Nat), .int .u64 (lo Q : Nat)], .int .i64 9] W fun e w' => e = .returned (dv (tlb (c != d) Q 9)) ∧ Below W.heap.size W w') := Lib.hid (fun W => tell_any (w := W) (b := c != d) (n := Q) (s := 9) (by omega) (by omega))
    clear hR
    clear hP hMN hNb hst hs ht HV hya
    go_enter Tryz.func13, Tryz.ntmps13
    go_wp2_with fail
    refine (HK.out _).mono ?_
    rintro e w1 ⟨rfl, hb⟩
    have HSB := Lib.hid (H0.out.call hb)
    clear H0 hb
    go_wp2
    refine wp_region_phases (S := (S2 w 3 ([((w.heap.size + 1 + 1), 23, #[.int .i64 0, .int .i64 0]), ((w.heap.size + 1), 23, #[.int .i64 n, .int .i64 (t : Nat)]), (w.heap.size, 23, #[.int .i64 m, .int .i64 (s : Nat)])] : List (Nat × TypeId × Array Value)) 46 #[.bool false, .int .u64 0, .int .u64 0] #[.bool c, .int .u64 (hi (P) : Nat), .int .u64 (lo (P) : Nat)])) (E := (fun _ _ => True)) [8, 9] [(2, Is (.pointer (some ⟨w.heap.size, 0, none⟩))), (3, Is (.pointer (some ⟨(w.heap.size + 1), 0, none⟩))), (4, Is (.pointer (some ⟨(w.heap.size + 1 + 1), 0, none⟩)))] [(13, Is (.pointer (some ⟨w.heap.size, 0, none⟩))), (14, Is (.int .i64 m)), (15, Is (wd c M)), (16, Is (.pointer (some ⟨(w.heap.size + 1), 0, none⟩))), (17, Is (.int .i64 n)), (18, Is (.agg #[.bool d, .int .u64 0, .int .u64 (N : Nat)])), (19, Is (.int .u64 (N : Nat))), (20, Is (.agg #[.bool c, .int .u64 (hi (P) : Nat), .int .u64 (lo (P) : Nat)]))]
      [.op [2] none, .op [13] none, .op [14] none, .op [3] none, .op [16] none, .op [17] none, .op [18] none, .op [15, 19] none, .phase 0 [] [], .phase 1 [20] [(0, 6)]] (by as_aux_lemma => kernel_rfl) ?_ ?_ ?_ ?_ ?_ ⟨stable_is _ _, stable_is _ _, stable_is _ _, stable_is _ _, stable_is _ _, stable_is _ _, stable_is _ _, stable_is _ _, stable_is _ _, stable_is _ _, stable_is _ _, trivial⟩ ?_ (HSB.out.drew) ?_ ?_
    · as_aux_lemma => kernel_rfl
    · as_aux_lemma => kernel_rfl
    · as_aux_lemma => kernel_rfl
    · as_aux_lemma => kernel_rfl
    · as_aux_lemma => kernel_rfl
    · exact ⟨rfl, rfl, rfl, trivial⟩
    · refine ⟨?_, ?_, ?_, ?_, ?_, ?_, ?_, ?_, ?_, ?_, trivial⟩
      · as_aux_lemma =>
          intro vals a W hS hL
          have e2 : a.tmps.getD 2 undef = .pointer (some ⟨w.heap.size, 0, none⟩) := hL.1
          clear hL
          go_simp
          exact ⟨⟨fun d hd => by injection hd with hd; subst hd; rfl, fun h => by cases h⟩, hS, trivial⟩
      · as_aux_lemma =>
          intro vals a W hS hL
          have e13 : a.tmps.getD 13 undef = .pointer (some ⟨w.heap.size, 0, none⟩) := hL.1
          clear hL
          have kb : Bk W w.heap.size 23 #[.int .i64 m, .int .i64 (s : Nat)] := hS.bk (.tail _ (.tail _ (.head _)))
          have f0 := kb.cell 0
          clear kb
          go_simp
          exact ⟨⟨fun d hd => by injection hd with hd; subst hd; rfl, fun h => by cases h⟩, hS, trivial⟩
      · as_aux_lemma =>
          intro vals a W hS hL
          have e14 : a.tmps.getD 14 undef = .int .i64 m := hL.1
          clear hL
          go_simp
          refine (HX.out W).mono ?_
          rintro e W' ⟨rfl, hb⟩
          exact ⟨_, rfl, ⟨fun d hd => by injection hd with hd; subst hd; rfl, fun h => by cases h⟩, hS.call hb, trivial⟩
      · as_aux_lemma =>
          intro vals a W hS hL
          have e3 : a.tmps.getD 3 undef = .pointer (some ⟨(w.heap.size + 1), 0, none⟩) := hL.1
          clear hL
          go_simp
          exact ⟨⟨fun d hd => by injection hd with hd; subst hd; rfl, fun h => by cases h⟩, hS, trivial⟩
      · as_aux_lemma =>
          intro vals a W hS hL
          have e16 : a.tmps.getD 16 undef = .pointer (some ⟨(w.heap.size + 1), 0, none⟩) := hL.1
          clear hL
          have kb : Bk W (w.heap.size + 1) 23 #[.int .i64 n, .int .i64 (t : Nat)] := hS.bk (.tail _ (.head _))
          have f0 := kb.cell 0
          clear kb
          go_simp
          exact ⟨⟨fun d hd => by injection hd with hd; subst hd; rfl, fun h => by cases h⟩, hS, trivial⟩
      · as_aux_lemma =>
          intro vals a W hS hL
          have e17 : a.tmps.getD 17 undef = .int .i64 n := hL.1
          clear hL
          go_simp
          refine (HY.out W).mono ?_
          rintro e W' ⟨rfl, hb⟩
          exact ⟨_, rfl, ⟨fun d hd => by injection hd with hd; subst hd; rfl, fun h => by cases h⟩, hS.call hb, trivial⟩
      · as_aux_lemma =>
          intro vals a W hS hL
          have e18 : a.tmps.getD 18 undef = .agg #[.bool d, .int .u64 0, .int .u64 (N : Nat)] := hL.1
          clear hL
          go_simp
          exact ⟨⟨fun d hd => by injection hd with hd; subst hd; rfl, fun h => by cases h⟩, hS, trivial⟩
      · as_aux_lemma =>
          intro vals a W hS hL
          have e15 : a.tmps.getD 15 undef = wd c M := hL.1
          have e19 : a.tmps.getD 19 undef = .int .u64 (N : Nat) := hL.2.1
          clear hL
          go_simp
          refine (HT.out W).mono ?_
          rintro e W' ⟨rfl, hb⟩
          exact ⟨_, rfl, ⟨fun d hd => by injection hd with hd; subst hd; rfl, fun h => by cases h⟩, hS.call hb, trivial⟩
      · as_aux_lemma =>
          intro a W vals hv hS hL hp
          clear hL
          match vals, hv, hS with
          | [], _, hS =>
            have hB : SB w 3 ([((w.heap.size + 1 + 1), 23, #[.int .i64 0, .int .i64 0]), ((w.heap.size + 1), 23, #[.int .i64 n, .int .i64 (t : Nat)]), (w.heap.size, 23, #[.int .i64 m, .int .i64 (s : Nat)])] : List (Nat × TypeId × Array Value)) W := hS
            have hF := hB.alloc 46 #[.bool false, .int .u64 0, .int .u64 0]
            have hz := hB.size
            go_simp
            exact ⟨⟨_, rfl, hz, hF⟩, trivial, trivial⟩
      · as_aux_lemma =>
          intro a W vals hv hS hL hp
          have e20 : a.tmps.getD 20 undef = .agg #[.bool c, .int .u64 (hi (P) : Nat), .int .u64 (lo (P) : Nat)] := hL.1
          clear hL
          match vals, hv, hS with
          | [v], _, hS =>
            obtain ⟨g, rfl, hg, hB⟩ := hS
            have e6 := hp.1 (by simp)
            simp only [List.getElem?_cons_zero, Option.some.injEq] at e6
            have kz := hB.bk _ (List.mem_cons_self ..)
            have hlt : ∀ x ∈ ([((w.heap.size + 1 + 1), 23, #[.int .i64 0, .int .i64 0]), ((w.heap.size + 1), 23, #[.int .i64 n, .int .i64 (t : Nat)]), (w.heap.size, 23, #[.int .i64 m, .int .i64 (s : Nat)])] : List (Nat × TypeId × Array Value)), x.1 ≠ g := by simp <;> omega
            have z0 := kz.frozen 0
            have q0 := kz.cell 0
            have z1 := kz.frozen 1
            have q1 := kz.cell 1
            have z2 := kz.frozen 2
            have q2 := kz.cell 2
            have hF := hB.set3 (by omega) hlt (.bool c : Value) (.int .u64 (hi (P) : Nat) : Value) (.int .u64 (lo (P) : Nat) : Value)
            rw [Array.getD_eq_getD_getElem?] at e20
            rw [Array.getD_eq_getD_getElem?] at e6
            have e6' := e6.symm
            clear e6
            clear hS kz hB
            go_simp
            exact ⟨⟨g, rfl, hg, hF⟩, trivial, trivial⟩
    · intro a W' vals hd hsz hT hF hv hP hS
      obtain ⟨v0, v1, rfl⟩ : ∃ v0 v1, vals = [v0, v1] := by
        match vals, hv with
        | [x, y], _ => exact ⟨x, y, rfl⟩
      obtain ⟨g, hg0, hg, hB⟩ : ∃ g : Nat, v0 = .pointer (some ⟨g, 0, none⟩) ∧ w.heap.size + 3 ≤ g ∧ SB w 3 ([(g, 46, #[.bool c, .int .u64 (hi (P) : Nat), .int .u64 (lo (P) : Nat)]), ((w.heap.size + 1 + 1), 23, #[.int .i64 0, .int .i64 0]), ((w.heap.size + 1), 23, #[.int .i64 n, .int .i64 (t : Nat)]), (w.heap.size, 23, #[.int .i64 m, .int .i64 (s : Nat)])] : List (Nat × TypeId × Array Value)) W' := hS
      subst hg0
      have e6 : a.tmps.getD 6 undef = .pointer (some ⟨g, 0, none⟩) := by
        have := hP 0 8 _ 6 rfl (by simp) rfl rfl
        simpa using this.symm
      have e2 : a.tmps.getD 2 undef = .pointer (some ⟨w.heap.size, 0, none⟩) := hT 2 (by simp)
      have e3 : a.tmps.getD 3 undef = .pointer (some ⟨(w.heap.size + 1), 0, none⟩) := hT 3 (by simp)
      have e4 : a.tmps.getD 4 undef = .pointer (some ⟨(w.heap.size + 1 + 1), 0, none⟩) := hT 4 (by simp)
      clear hT hF hP
      rw [act_lit 45 a hd hsz]
      simp only [List.range, List.range.loop, List.map, e2, e3, e4, e6]
      clear e2 e3 e4 e6
      have k7 := hB.bk _ (List.mem_cons_self ..)
      have c70 := k7.cell 0
      have z70 := k7.frozen 0
      have c71 := k7.cell 1
      have z71 := k7.frozen 1
      have c72 := k7.cell 2
      have z72 := k7.frozen 2
      clear k7
      have k8 := hB.bk _ (.tail _ (.tail _ (.head _)))
      have c80 := k8.cell 0
      have c81 := k8.cell 1
      clear k8
      have k9 := hB.bk _ (.tail _ (.tail _ (.tail _ (.head _))))
      have c90 := k9.cell 0
      have c91 := k9.cell 1
      clear k9
      have hcd := HCD.out
      obtain ⟨hc, hd⟩ := hcd
      have hne : ∀ x ∈ ([((w.heap.size + 1 + 1), 23, #[.int .i64 0, .int .i64 0]), ((w.heap.size + 1), 23, #[.int .i64 n, .int .i64 (t : Nat)]), (w.heap.size, 23, #[.int .i64 m, .int .i64 (s : Nat)])] : List (Nat × TypeId × Array Value)), x.1 ≠ g := by simp <;> omega
      have hF : SB w 3 ((g, 46, #[.bool (c != d), .int .u64 (hi P : Nat), .int .u64 (lo P : Nat)]) :: ([((w.heap.size + 1 + 1), 23, #[.int .i64 0, .int .i64 0]), ((w.heap.size + 1), 23, #[.int .i64 n, .int .i64 (t : Nat)]), (w.heap.size, 23, #[.int .i64 m, .int .i64 (s : Nat)])] : List (Nat × TypeId × Array Value))) (W'.setCell ⟨g, 0, none⟩ (.bool (c != d))) := by
        have := hB.set (by omega) hne 0 (.bool (c != d))
        simpa using this
      have HF := Lib.hid hF
      have HNE := Lib.hid hne
      have HG := Lib.hid hg
      clear hB hF hne
      go_wp2_with fail
      refine (HD.out _).mono ?_
      rintro e w2 ⟨rfl, hb⟩
      have hB := HF.out.call hb
      clear hb HF c70 z70 c71 z71 c72 z72 c80 c81 c90 c91
      have k7 := hB.bk _ (.head _)
      have c70 := k7.cell 0
      have c71 := k7.cell 1
      have c72 := k7.cell 2
      have z70 := k7.frozen 0
      have z71 := k7.frozen 1
      have z72 := k7.frozen 2
      have hF := hB.set3 (by omega) HNE.out (.bool (c != d)) (.int .u64 (hi Q : Nat)) (.int .u64 (lo Q : Nat))
      have HF := Lib.hid hF
      clear hB k7 hF
      go_wp2_with fail
      refine (HTL.out _).mono ?_
      rintro e w3 ⟨rfl, hb⟩
      rw [dv_parts]
      have HF2 := HF.out.call hb
      clear hb HF c70 z70 c71 z71 c72 z72
      have k4 := HF2.bk _ (.tail _ (.head _))
      have hbel := HF2.bel
      have c40 := k4.cell 0
      have c41 := k4.cell 1
      have z40 := k4.frozen 0
      have z41 := k4.frozen 1
      clear k4
      clear HF2
      go_wp2
      refine bodyPost_ret (v := dv (tlb (c != d) Q 9)) ?_ rfl ⟨by rw [HV2.out], (hbel.setCell (by simp <;> omega) _).setCell (by simp <;> omega) _⟩
      rw [dv_parts]
      simp [results, Tryz.results13, go_sem, c40, c41]
  · have HP := Lib.hid hP
    have HST := Lib.hid hst
    have hs' : (s : Int) ≤ 9 := by omega
    have ht' : (t : Int) ≤ 9 := by omega
    have hst' : (s : Int) + (t : Int) ≤ 9 := by omega
    have HTL : Hid (∀ W : World, Calls Tryz.prog 26 #[.agg #[.bool (c != d), .int .u64 (hi P : Nat), .int .u64 (lo P : Nat)], .int .i64 ((s : Int) + (t : Int))] W fun e w' => e = .returned (dv (tlb (c != d) P (s + t))) ∧ Below W.heap.size W w') := Lib.hid (fun W => by
      have := tell_any (w := W) (b := c != d) (n := P) (s := s + t) (by omega) (by omega)
      rw [Int.natCast_add] at this
      exact this)
    have HV2 := Lib.hid (show mulD m s n t = tlb (c != d) P (s + t) by
      rw [HV.out (s + t) 0 (by omega) (by omega)]; rfl)
    clear hP hMN hNb hst hs ht HV hya
    go_enter Tryz.func13, Tryz.ntmps13
    go_wp2_with fail
    refine (HK.out _).mono ?_
    rintro e w1 ⟨rfl, hb⟩
    have HSB := Lib.hid (H0.out.call hb)
    clear H0 hb
    go_wp2
    refine wp_region_phases (S := (S2 w 3 ([((w.heap.size + 1 + 1), 23, #[.int .i64 0, .int .i64 0]), ((w.heap.size + 1), 23, #[.int .i64 n, .int .i64 (t : Nat)]), (w.heap.size, 23, #[.int .i64 m, .int .i64 (s : Nat)])] : List (Nat × TypeId × Array Value)) 46 #[.bool false, .int .u64 0, .int .u64 0] #[.bool c, .int .u64 (hi (P) : Nat), .int .u64 (lo (P) : Nat)])) (E := (fun _ _ => True)) [8, 9] [(2, Is (.pointer (some ⟨w.heap.size, 0, none⟩))), (3, Is (.pointer (some ⟨(w.heap.size + 1), 0, none⟩))), (4, Is (.pointer (some ⟨(w.heap.size + 1 + 1), 0, none⟩)))] [(13, Is (.pointer (some ⟨w.heap.size, 0, none⟩))), (14, Is (.int .i64 m)), (15, Is (wd c M)), (16, Is (.pointer (some ⟨(w.heap.size + 1), 0, none⟩))), (17, Is (.int .i64 n)), (18, Is (.agg #[.bool d, .int .u64 0, .int .u64 (N : Nat)])), (19, Is (.int .u64 (N : Nat))), (20, Is (.agg #[.bool c, .int .u64 (hi (P) : Nat), .int .u64 (lo (P) : Nat)]))]
      [.op [2] none, .op [13] none, .op [14] none, .op [3] none, .op [16] none, .op [17] none, .op [18] none, .op [15, 19] none, .phase 0 [] [], .phase 1 [20] [(0, 6)]] (by as_aux_lemma => kernel_rfl) ?_ ?_ ?_ ?_ ?_ ⟨stable_is _ _, stable_is _ _, stable_is _ _, stable_is _ _, stable_is _ _, stable_is _ _, stable_is _ _, stable_is _ _, stable_is _ _, stable_is _ _, stable_is _ _, trivial⟩ ?_ (HSB.out.drew) ?_ ?_
    · as_aux_lemma => kernel_rfl
    · as_aux_lemma => kernel_rfl
    · as_aux_lemma => kernel_rfl
    · as_aux_lemma => kernel_rfl
    · as_aux_lemma => kernel_rfl
    · exact ⟨rfl, rfl, rfl, trivial⟩
    · refine ⟨?_, ?_, ?_, ?_, ?_, ?_, ?_, ?_, ?_, ?_, trivial⟩
      · as_aux_lemma =>
          intro vals a W hS hL
          have e2 : a.tmps.getD 2 undef = .pointer (some ⟨w.heap.size, 0, none⟩) := hL.1
          clear hL
          go_simp
          exact ⟨⟨fun d hd => by injection hd with hd; subst hd; rfl, fun h => by cases h⟩, hS, trivial⟩
      · as_aux_lemma =>
          intro vals a W hS hL
          have e13 : a.tmps.getD 13 undef = .pointer (some ⟨w.heap.size, 0, none⟩) := hL.1
          clear hL
          have kb : Bk W w.heap.size 23 #[.int .i64 m, .int .i64 (s : Nat)] := hS.bk (.tail _ (.tail _ (.head _)))
          have f0 := kb.cell 0
          clear kb
          go_simp
          exact ⟨⟨fun d hd => by injection hd with hd; subst hd; rfl, fun h => by cases h⟩, hS, trivial⟩
      · as_aux_lemma =>
          intro vals a W hS hL
          have e14 : a.tmps.getD 14 undef = .int .i64 m := hL.1
          clear hL
          go_simp
          refine (HX.out W).mono ?_
          rintro e W' ⟨rfl, hb⟩
          exact ⟨_, rfl, ⟨fun d hd => by injection hd with hd; subst hd; rfl, fun h => by cases h⟩, hS.call hb, trivial⟩
      · as_aux_lemma =>
          intro vals a W hS hL
          have e3 : a.tmps.getD 3 undef = .pointer (some ⟨(w.heap.size + 1), 0, none⟩) := hL.1
          clear hL
          go_simp
          exact ⟨⟨fun d hd => by injection hd with hd; subst hd; rfl, fun h => by cases h⟩, hS, trivial⟩
      · as_aux_lemma =>
          intro vals a W hS hL
          have e16 : a.tmps.getD 16 undef = .pointer (some ⟨(w.heap.size + 1), 0, none⟩) := hL.1
          clear hL
          have kb : Bk W (w.heap.size + 1) 23 #[.int .i64 n, .int .i64 (t : Nat)] := hS.bk (.tail _ (.head _))
          have f0 := kb.cell 0
          clear kb
          go_simp
          exact ⟨⟨fun d hd => by injection hd with hd; subst hd; rfl, fun h => by cases h⟩, hS, trivial⟩
      · as_aux_lemma =>
          intro vals a W hS hL
          have e17 : a.tmps.getD 17 undef = .int .i64 n := hL.1
          clear hL
          go_simp
          refine (HY.out W).mono ?_
          rintro e W' ⟨rfl, hb⟩
          exact ⟨_, rfl, ⟨fun d hd => by injection hd with hd; subst hd; rfl, fun h => by cases h⟩, hS.call hb, trivial⟩
      · as_aux_lemma =>
          intro vals a W hS hL
          have e18 : a.tmps.getD 18 undef = .agg #[.bool d, .int .u64 0, .int .u64 (N : Nat)] := hL.1
          clear hL
          go_simp
          exact ⟨⟨fun d hd => by injection hd with hd; subst hd; rfl, fun h => by cases h⟩, hS, trivial⟩
      · as_aux_lemma =>
          intro vals a W hS hL
          have e15 : a.tmps.getD 15 undef = wd c M := hL.1
          have e19 : a.tmps.getD 19 undef = .int .u64 (N : Nat) := hL.2.1
          clear hL
          go_simp
          refine (HT.out W).mono ?_
          rintro e W' ⟨rfl, hb⟩
          exact ⟨_, rfl, ⟨fun d hd => by injection hd with hd; subst hd; rfl, fun h => by cases h⟩, hS.call hb, trivial⟩
      · as_aux_lemma =>
          intro a W vals hv hS hL hp
          clear hL
          match vals, hv, hS with
          | [], _, hS =>
            have hB : SB w 3 ([((w.heap.size + 1 + 1), 23, #[.int .i64 0, .int .i64 0]), ((w.heap.size + 1), 23, #[.int .i64 n, .int .i64 (t : Nat)]), (w.heap.size, 23, #[.int .i64 m, .int .i64 (s : Nat)])] : List (Nat × TypeId × Array Value)) W := hS
            have hF := hB.alloc 46 #[.bool false, .int .u64 0, .int .u64 0]
            have hz := hB.size
            go_simp
            exact ⟨⟨_, rfl, hz, hF⟩, trivial, trivial⟩
      · as_aux_lemma =>
          intro a W vals hv hS hL hp
          have e20 : a.tmps.getD 20 undef = .agg #[.bool c, .int .u64 (hi (P) : Nat), .int .u64 (lo (P) : Nat)] := hL.1
          clear hL
          match vals, hv, hS with
          | [v], _, hS =>
            obtain ⟨g, rfl, hg, hB⟩ := hS
            have e6 := hp.1 (by simp)
            simp only [List.getElem?_cons_zero, Option.some.injEq] at e6
            have kz := hB.bk _ (List.mem_cons_self ..)
            have hlt : ∀ x ∈ ([((w.heap.size + 1 + 1), 23, #[.int .i64 0, .int .i64 0]), ((w.heap.size + 1), 23, #[.int .i64 n, .int .i64 (t : Nat)]), (w.heap.size, 23, #[.int .i64 m, .int .i64 (s : Nat)])] : List (Nat × TypeId × Array Value)), x.1 ≠ g := by simp <;> omega
            have z0 := kz.frozen 0
            have q0 := kz.cell 0
            have z1 := kz.frozen 1
            have q1 := kz.cell 1
            have z2 := kz.frozen 2
            have q2 := kz.cell 2
            have hF := hB.set3 (by omega) hlt (.bool c : Value) (.int .u64 (hi (P) : Nat) : Value) (.int .u64 (lo (P) : Nat) : Value)
            rw [Array.getD_eq_getD_getElem?] at e20
            rw [Array.getD_eq_getD_getElem?] at e6
            have e6' := e6.symm
            clear e6
            clear hS kz hB
            go_simp
            exact ⟨⟨g, rfl, hg, hF⟩, trivial, trivial⟩
    · intro a W' vals hd hsz hT hF hv hP hS
      obtain ⟨v0, v1, rfl⟩ : ∃ v0 v1, vals = [v0, v1] := by
        match vals, hv with
        | [x, y], _ => exact ⟨x, y, rfl⟩
      obtain ⟨g, hg0, hg, hB⟩ : ∃ g : Nat, v0 = .pointer (some ⟨g, 0, none⟩) ∧ w.heap.size + 3 ≤ g ∧ SB w 3 ([(g, 46, #[.bool c, .int .u64 (hi (P) : Nat), .int .u64 (lo (P) : Nat)]), ((w.heap.size + 1 + 1), 23, #[.int .i64 0, .int .i64 0]), ((w.heap.size + 1), 23, #[.int .i64 n, .int .i64 (t : Nat)]), (w.heap.size, 23, #[.int .i64 m, .int .i64 (s : Nat)])] : List (Nat × TypeId × Array Value)) W' := hS
      subst hg0
      have e6 : a.tmps.getD 6 undef = .pointer (some ⟨g, 0, none⟩) := by
        have := hP 0 8 _ 6 rfl (by simp) rfl rfl
        simpa using this.symm
      have e2 : a.tmps.getD 2 undef = .pointer (some ⟨w.heap.size, 0, none⟩) := hT 2 (by simp)
      have e3 : a.tmps.getD 3 undef = .pointer (some ⟨(w.heap.size + 1), 0, none⟩) := hT 3 (by simp)
      have e4 : a.tmps.getD 4 undef = .pointer (some ⟨(w.heap.size + 1 + 1), 0, none⟩) := hT 4 (by simp)
      clear hT hF hP
      rw [act_lit 45 a hd hsz]
      simp only [List.range, List.range.loop, List.map, e2, e3, e4, e6]
      clear e2 e3 e4 e6
      have k7 := hB.bk _ (List.mem_cons_self ..)
      have c70 := k7.cell 0
      have z70 := k7.frozen 0
      have c71 := k7.cell 1
      have z71 := k7.frozen 1
      have c72 := k7.cell 2
      have z72 := k7.frozen 2
      clear k7
      have k8 := hB.bk _ (.tail _ (.tail _ (.head _)))
      have c80 := k8.cell 0
      have c81 := k8.cell 1
      clear k8
      have k9 := hB.bk _ (.tail _ (.tail _ (.tail _ (.head _))))
      have c90 := k9.cell 0
      have c91 := k9.cell 1
      clear k9
      have hcd := HCD.out
      obtain ⟨hc, hd⟩ := hcd
      have hne : ∀ x ∈ ([((w.heap.size + 1 + 1), 23, #[.int .i64 0, .int .i64 0]), ((w.heap.size + 1), 23, #[.int .i64 n, .int .i64 (t : Nat)]), (w.heap.size, 23, #[.int .i64 m, .int .i64 (s : Nat)])] : List (Nat × TypeId × Array Value)), x.1 ≠ g := by simp <;> omega
      have hF : SB w 3 ((g, 46, #[.bool (c != d), .int .u64 (hi P : Nat), .int .u64 (lo P : Nat)]) :: ([((w.heap.size + 1 + 1), 23, #[.int .i64 0, .int .i64 0]), ((w.heap.size + 1), 23, #[.int .i64 n, .int .i64 (t : Nat)]), (w.heap.size, 23, #[.int .i64 m, .int .i64 (s : Nat)])] : List (Nat × TypeId × Array Value))) (W'.setCell ⟨g, 0, none⟩ (.bool (c != d))) := by
        have := hB.set (by omega) hne 0 (.bool (c != d))
        simpa using this
      have HF := Lib.hid hF
      have HNE := Lib.hid hne
      have HG := Lib.hid hg
      clear hB hF hne
      go_wp2_with fail
      refine (HTL.out _).mono ?_
      rintro e w3 ⟨rfl, hb⟩
      rw [dv_parts]
      have HF2 := HF.out.call hb
      clear hb HF c70 z70 c71 z71 c72 z72 c80 c81 c90 c91
      have k4 := HF2.bk _ (.tail _ (.head _))
      have hbel := HF2.bel
      have c40 := k4.cell 0
      have c41 := k4.cell 1
      have z40 := k4.frozen 0
      have z41 := k4.frozen 1
      clear k4
      clear HF2
      go_wp2
      refine bodyPost_ret (v := dv (tlb (c != d) P (s + t))) ?_ rfl ⟨by rw [HV2.out], (hbel.setCell (by simp <;> omega) _).setCell (by simp <;> omega) _⟩
      rw [dv_parts]
      simp [results, Tryz.results13, go_sem, c40, c41]
end Go.Proofs.YtgepipapppdhfaaGreatDoor
