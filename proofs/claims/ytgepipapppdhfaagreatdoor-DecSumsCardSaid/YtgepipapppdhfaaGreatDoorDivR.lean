/- The reference's MulDec, DivDec by their contracts. Condition: decimals that stand. -/
import Derived.Test.YtgepipapppdhfaaGreatDoorSums
import Derived.Test.YtgepipapppdhfaaGreatDoorOver
import Derived.Test.YtgepipapppdhfaaGreatDoorTimes
namespace Go.Proofs.YtgepipapppdhfaaGreatDoor
open Go.RowKit

set_option maxRecDepth 20000 in
set_option maxHeartbeats 2000000 in
theorem bMul_any {w : World} {m k : Int} {s t : Nat} (hx : Gd m s) (hy : Gd k t) :
    Calls Tryz.prog 14 #[.agg #[.int .i64 m, .int .i64 (s : Nat)], .agg #[.int .i64 k, .int .i64 (t : Nat)]] w fun e w' => e = .returned (dv (mulD m s k t)) ∧ Below w.heap.size w w' := by
  have h0 := hx.lo
  have h1 := hx.hi
  have h2 := hy.lo
  have h3 := hy.hi
  have hs := hx.s9
  have ht := hy.s9
  have lm := Nat.le_trans (digs_i64 h0 h1) (show 20 ≤ 100 by omega)
  have lk := Nat.le_trans (digs_i64 h2 h3) (show 20 ≤ 100 by omega)
  have lmk : (m * k).natAbs < 10 ^ 40 := by
    rw [Int.natAbs_mul]
    calc m.natAbs * k.natAbs ≤ 10 ^ 19 * 10 ^ 19 := Nat.mul_le_mul (by omega) (by omega)
      _ < 10 ^ 40 := by decide
  obtain ⟨T, hT⟩ : ∃ T : Nat, s + t = T := ⟨_, rfl⟩
  have HJ := Lib.hid (show IntKind.i64.wrap ((s : Int) + (t : Int)) = (T : Int) by rw [show (s : Int) + (t : Int) = (T : Int) by omega]; exact IntWalk.i64_in _ (by omega))
  obtain ⟨q, hq⟩ : ∃ q : Nat, min T 9 = q := ⟨_, rfl⟩
  have HRND : Hid (∀ (W : World) (x : Value), BigN W x (m * k) → Calls Tryz.prog 36 #[x, .int .i64 (T : Nat), .int .i64 9] W fun e w' => ∃ y, e = .returned (.tuple #[y, .int .i64 (q : Nat)]) ∧ BigN w' y (rndI (m * k) (T - 9)) ∧ Below W.heap.size W w') := Lib.hid (fun W x hx => by
    have h := rnd_all (p := 9) (s := T) hx (Nat.le_trans (digs_len.2 lmk) (by omega)) (by omega) (by omega) (by omega)
    rw [show ((T : Int) - 9).toNat = T - 9 by omega, show (if (T : Int) ≤ 9 then (T : Int) else 9) = (q : Int) by split <;> omega] at h
    exact h)
  have HT := Lib.hid (show tl (rndI (m * k) (T - 9)) q = mulD m s k t by unfold mulD; rw [hT, hq])
  have hRa := rndI_abs (m * k) (T - 9)
  generalize rndI (m * k) (T - 9) = R at *
  have lR : (digs R.natAbs).length ≤ 500 := Nat.le_trans ((digs_len (k := 41)).2 (by omega)) (by omega)
  have hq9 : q ≤ 9 := by omega
  have HSB : Hid (SB w 3 ([(w.heap.size, 28, #[.int .i64 m, .int .i64 (s : Nat)]), (w.heap.size + 1, 28, #[.int .i64 k, .int .i64 (t : Nat)]), (w.heap.size + 1 + 1, 28, #[.int .i64 0, .int .i64 0])] : List (Nat × TypeId × Array Value)) (((w.alloc (.cells #[.int .i64 m, .int .i64 (s : Nat)] 28)).alloc (.cells #[.int .i64 k, .int .i64 (t : Nat)] 28)).alloc (.cells #[.int .i64 0, .int .i64 0] 28))) := Lib.hid (by
    have h := ((sb1 w 28 #[.int .i64 m, .int .i64 (s : Nat)]).push (by simp) 28 #[.int .i64 k, .int .i64 (t : Nat)]).push (by simp) 28 #[.int .i64 0, .int .i64 0]
    exact ⟨h.bel, h.size, fun z hz => h.bk z (by
      simp only [List.mem_cons, List.not_mem_nil, or_false] at hz ⊢
      rcases hz with e | e | e <;> simp [e])⟩)
  clear hx hy hq hRa lmk
  go_enter Tryz.func14, Tryz.ntmps14
  go_wp2_with fail
  generalize (((w.alloc (.cells #[.int .i64 m, .int .i64 (s : Nat)] 28)).alloc (.cells #[.int .i64 k, .int .i64 (t : Nat)] 28)).alloc (.cells #[.int .i64 0, .int .i64 0] 28)) = w0 at *
  clear hT
  refine wp_region_phases (S := (S3 w 3 ([(w.heap.size, 28, #[.int .i64 m, .int .i64 (s : Nat)]), (w.heap.size + 1, 28, #[.int .i64 k, .int .i64 (t : Nat)]), (w.heap.size + 1 + 1, 28, #[.int .i64 0, .int .i64 0])] : List (Nat × TypeId × Array Value)) R)) (E := EI) [16, 17] [(2, Is (.pointer (some ⟨w.heap.size, 0, none⟩))), (3, Is (.pointer (some ⟨w.heap.size + 1, 0, none⟩))), (4, Is (.pointer (some ⟨w.heap.size + 1 + 1, 0, none⟩)))] [(9, Is (.pointer (some ⟨w.heap.size, 0, none⟩))), (10, Is (.int .i64 m)), (11, FNum m), (12, Is (.pointer (some ⟨w.heap.size + 1, 0, none⟩))), (13, Is (.int .i64 k)), (14, FNum k), (15, FNum (m * k)), (16, Is (.pointer (some ⟨w.heap.size, 1, none⟩))), (17, Is (.int .i64 (s : Nat))), (18, Is (.pointer (some ⟨w.heap.size + 1, 1, none⟩))), (19, Is (.int .i64 (t : Nat))), (20, Is (.int .i64 (T : Nat))), (21, FTup R (q : Nat)), (8, FTup R (q : Nat)), (22, FNum R), (23, Is (.int .i64 (q : Nat))), (7, Is (.int .i64 (q : Nat)))]
    [.op [2] none, .op [9] none, .op [10] none, .op [3] none, .op [12] none, .op [13] none, .op [11, 14] none, .op [2] none, .op [16] none, .op [3] none, .op [18] none, .op [17, 19] none, .op [15, 20] none, .op [21] none, .op [8] none, .op [8] none, .phase 0 [] [], .phase 1 [22] [(0, 6)], .op [23] none] (by as_aux_lemma => kernel_rfl) ?_ ?_ ?_ ?_ ?_ ⟨stable_is _ _, stable_is _ _, stable_is _ _, stable_is _ _, stable_is _ _, st_num, stable_is _ _, stable_is _ _, st_num, st_num, stable_is _ _, stable_is _ _, stable_is _ _, stable_is _ _, stable_is _ _, st_tup, st_tup, st_num, stable_is _ _, stable_is _ _, trivial⟩ ?_ (HSB.out.drew) ?_ ?_
  · as_aux_lemma => kernel_rfl
  · as_aux_lemma => kernel_rfl
  · as_aux_lemma => kernel_rfl
  · as_aux_lemma => kernel_rfl
  · as_aux_lemma => kernel_rfl
  · exact ⟨rfl, rfl, rfl, trivial⟩
  · refine ⟨?_, ?_, ?_, ?_, ?_, ?_, ?_, ?_, ?_, ?_, ?_, ?_, ?_, ?_, ?_, ?_, ?_, ?_, ?_, trivial⟩
    · as_aux_lemma =>
        intro vals a W hS hL
        have e2 : a.tmps.getD 2 undef = .pointer (some ⟨w.heap.size, 0, none⟩) := hL.1
        clear hL
        go_simp
        exact ⟨⟨fun d hd => by injection hd with hd; subst hd; rfl, fun h => by cases h⟩, hS, EI.refl _⟩
    · as_aux_lemma =>
        intro vals a W hS hL
        have e9 : a.tmps.getD 9 undef = .pointer (some ⟨w.heap.size, 0, none⟩) := hL.1
        clear hL
        have kb : Bk W (w.heap.size) 28 #[.int .i64 m, .int .i64 (s : Nat)] := hS.bk (.head _)
        have f0 := kb.cell 0
        have f1 := kb.cell 1
        clear kb
        go_simp
        exact ⟨⟨fun d hd => by injection hd with hd; subst hd; rfl, fun h => by cases h⟩, hS, EI.refl _⟩
    · as_aux_lemma =>
        intro vals a W hS hL
        have e10 : a.tmps.getD 10 undef = .int .i64 m := hL.1
        clear hL
        go_simp
        refine (bigN_big h0 h1).mono ?_
        rintro e W1 ⟨y, rfl, hy, hb⟩
        exact ⟨_, rfl, ⟨fun d hd => by injection hd with hd; subst hd; exact hy, fun h => by cases h⟩, hS.call hb, EI.of_below hb⟩
    · as_aux_lemma =>
        intro vals a W hS hL
        have e3 : a.tmps.getD 3 undef = .pointer (some ⟨w.heap.size + 1, 0, none⟩) := hL.1
        clear hL
        go_simp
        exact ⟨⟨fun d hd => by injection hd with hd; subst hd; rfl, fun h => by cases h⟩, hS, EI.refl _⟩
    · as_aux_lemma =>
        intro vals a W hS hL
        have e12 : a.tmps.getD 12 undef = .pointer (some ⟨w.heap.size + 1, 0, none⟩) := hL.1
        clear hL
        have kb : Bk W (w.heap.size + 1) 28 #[.int .i64 k, .int .i64 (t : Nat)] := hS.bk (.tail _ (.head _))
        have f0 := kb.cell 0
        have f1 := kb.cell 1
        clear kb
        go_simp
        exact ⟨⟨fun d hd => by injection hd with hd; subst hd; rfl, fun h => by cases h⟩, hS, EI.refl _⟩
    · as_aux_lemma =>
        intro vals a W hS hL
        have e13 : a.tmps.getD 13 undef = .int .i64 k := hL.1
        clear hL
        go_simp
        refine (bigN_big h2 h3).mono ?_
        rintro e W1 ⟨y, rfl, hy, hb⟩
        exact ⟨_, rfl, ⟨fun d hd => by injection hd with hd; subst hd; exact hy, fun h => by cases h⟩, hS.call hb, EI.of_below hb⟩
    · as_aux_lemma =>
        intro vals a W hS hL
        have e11 := hL.1
        have e14 := hL.2.1
        clear hL
        have hnum11 := e11
        obtain ⟨A11, n11, c11, e11, hm11, hc11, h11⟩ := e11
        rw [show a.tmps.getD 11 undef = _ from e11] at hnum11
        have hnum14 := e14
        obtain ⟨A14, n14, c14, e14, hm14, hc14, h14⟩ := e14
        rw [show a.tmps.getD 14 undef = _ from e14] at hnum14
        go_simp
        refine (bTimes_any hnum11 hnum14 lm lk).mono ?_
        rintro e W1 ⟨y, rfl, hy, hb⟩
        exact ⟨_, rfl, ⟨fun d hd => by injection hd with hd; subst hd; exact hy, fun h => by cases h⟩, hS.call hb, EI.of_below hb⟩
    · as_aux_lemma =>
        intro vals a W hS hL
        have e2 : a.tmps.getD 2 undef = .pointer (some ⟨w.heap.size, 0, none⟩) := hL.1
        clear hL
        go_simp
        exact ⟨⟨fun d hd => by injection hd with hd; subst hd; rfl, fun h => by cases h⟩, hS, EI.refl _⟩
    · as_aux_lemma =>
        intro vals a W hS hL
        have e16 : a.tmps.getD 16 undef = .pointer (some ⟨w.heap.size, 1, none⟩) := hL.1
        clear hL
        have kb : Bk W (w.heap.size) 28 #[.int .i64 m, .int .i64 (s : Nat)] := hS.bk (.head _)
        have f0 := kb.cell 0
        have f1 := kb.cell 1
        clear kb
        go_simp
        exact ⟨⟨fun d hd => by injection hd with hd; subst hd; rfl, fun h => by cases h⟩, hS, EI.refl _⟩
    · as_aux_lemma =>
        intro vals a W hS hL
        have e3 : a.tmps.getD 3 undef = .pointer (some ⟨w.heap.size + 1, 0, none⟩) := hL.1
        clear hL
        go_simp
        exact ⟨⟨fun d hd => by injection hd with hd; subst hd; rfl, fun h => by cases h⟩, hS, EI.refl _⟩
    · as_aux_lemma =>
        intro vals a W hS hL
        have e18 : a.tmps.getD 18 undef = .pointer (some ⟨w.heap.size + 1, 1, none⟩) := hL.1
        clear hL
        have kb : Bk W (w.heap.size + 1) 28 #[.int .i64 k, .int .i64 (t : Nat)] := hS.bk (.tail _ (.head _))
        have f0 := kb.cell 0
        have f1 := kb.cell 1
        clear kb
        go_simp
        exact ⟨⟨fun d hd => by injection hd with hd; subst hd; rfl, fun h => by cases h⟩, hS, EI.refl _⟩
    · as_aux_lemma =>
        intro vals a W hS hL
        have e17 : a.tmps.getD 17 undef = .int .i64 (s : Nat) := hL.1
        have e19 : a.tmps.getD 19 undef = .int .i64 (t : Nat) := hL.2.1
        clear hL
        have hd := HJ.out
        go_simp
        exact ⟨⟨fun d hd => by injection hd with hd; subst hd; rfl, fun h => by cases h⟩, hS, EI.refl _⟩
    · as_aux_lemma =>
        intro vals a W hS hL
        have e15 := hL.1
        have e20 : a.tmps.getD 20 undef = .int .i64 (T : Nat) := hL.2.1
        clear hL
        have hnum15 := e15
        obtain ⟨A15, n15, c15, e15, hm15, hc15, h15⟩ := e15
        rw [show a.tmps.getD 15 undef = _ from e15] at hnum15
        go_simp
        refine (HRND.out _ _ hnum15).mono ?_
        rintro e W1 ⟨y, rfl, hy, hb⟩
        exact ⟨_, rfl, ⟨fun d hd => by injection hd with hd; subst hd; exact ⟨y, rfl, hy⟩, fun h => by cases h⟩, hS.call hb, EI.of_below hb⟩
    · as_aux_lemma =>
        intro vals a W hS hL
        have e21 := hL.1
        clear hL
        obtain ⟨y, e21, h21⟩ := e21
        go_simp
        exact ⟨⟨fun d hd => by injection hd with hd; subst hd; exact ⟨y, rfl, h21⟩, fun h => by cases h⟩, hS, EI.refl _⟩
    · as_aux_lemma =>
        intro vals a W hS hL
        have e8 := hL.1
        clear hL
        obtain ⟨y, e8, h8⟩ := e8
        go_simp
        exact ⟨⟨fun d hd => by injection hd with hd; subst hd; exact h8, fun h => by cases h⟩, hS, EI.refl _⟩
    · as_aux_lemma =>
        intro vals a W hS hL
        have e8 := hL.1
        clear hL
        obtain ⟨y, e8, -⟩ := e8
        go_simp
        exact ⟨⟨fun d hd => by injection hd with hd; subst hd; rfl, fun h => by cases h⟩, hS, EI.refl _⟩
    · as_aux_lemma =>
        intro a W vals hv hS hL hp
        clear hL
        match vals, hv, hS with
        | [], _, hS =>
          have hB : SB w 3 ([(w.heap.size, 28, #[.int .i64 m, .int .i64 (s : Nat)]), (w.heap.size + 1, 28, #[.int .i64 k, .int .i64 (t : Nat)]), (w.heap.size + 1 + 1, 28, #[.int .i64 0, .int .i64 0])] : List (Nat × TypeId × Array Value)) W := hS
          have hF := hB.alloc 51 #[.bool false, .slice none 0 0]
          have hz := hB.size
          have hb : Below W.heap.size W (W.alloc (.cells #[.bool false, .slice none 0 0] 51)) := (Below.refl _ _).alloc (Nat.le_refl _) _
          go_simp
          exact ⟨⟨_, rfl, hz, hF⟩, trivial, EI.of_below hb⟩
    · as_aux_lemma =>
        intro a W vals hv hS hL hp
        have e22 := hL.1
        clear hL
        match vals, hv, hS with
        | [v], _, hS =>
          obtain ⟨g, rfl, hg, hB⟩ := hS
          have e6 := hp.1 (by simp)
          simp only [List.getElem?_cons_zero, Option.some.injEq] at e6
          have hnum := e22
          obtain ⟨A4, n4, c4, e22, hm4, hc4, h22⟩ := e22
          have kz := hB.bk _ (List.mem_cons_self ..)
          have hlt : ∀ x ∈ ([(w.heap.size, 28, #[.int .i64 m, .int .i64 (s : Nat)]), (w.heap.size + 1, 28, #[.int .i64 k, .int .i64 (t : Nat)]), (w.heap.size + 1 + 1, 28, #[.int .i64 0, .int .i64 0])] : List (Nat × TypeId × Array Value)), x.1 ≠ g := by simp <;> omega
          have z0 := kz.frozen 0
          have z1 := kz.frozen 1
          have q0 := kz.cell 0
          have q1 := kz.cell 1
          rw [show a.tmps.getD 22 undef = _ from e22] at hnum
          have hF := hB.set2 (by omega) hlt (.bool (decide (R < 0))) (.slice A4 n4 c4)
          have hN := BigN.box2 (b' := decide (R < 0)) (A' := A4) (n' := n4) (c' := c4) hnum kz
          have hE := (EI.set (i := 0) (u := .bool (decide (R < 0))) kz (show (51 : TypeId) ≠ 3 by decide) no_big).trans (EI.set (i := 1) (u := .slice A4 n4 c4) (show Bk (W.setCell ⟨g, 0, none⟩ (.bool (decide (R < 0)))) g 51 #[.bool (decide (R < 0)), .slice none 0 0] by simpa using kz.set_ 0 (.bool (decide (R < 0)))) (show (51 : TypeId) ≠ 3 by decide) no_big)
          rw [Array.getD_eq_getD_getElem?] at e22 e6
          have e6x := e6.symm
          clear e6 hS kz hB hnum
          go_simp
          exact ⟨⟨g, _, rfl, hg, hN, hF⟩, trivial, hE⟩
    · as_aux_lemma =>
        intro vals a W hS hL
        have e23 : a.tmps.getD 23 undef = .int .i64 (q : Nat) := hL.1
        clear hL
        go_simp
        exact ⟨⟨fun d hd => by injection hd with hd; subst hd; rfl, fun h => by cases h⟩, hS, EI.refl _⟩
  · intro a W' vals hd hsz hT hF hv hP hS
    obtain ⟨v0, v1, rfl⟩ : ∃ v0 v1, vals = [v0, v1] := by
      match vals, hv with
      | [x, y], _ => exact ⟨x, y, rfl⟩
    obtain ⟨g, cs, hg0, hg, hN, hB⟩ : ∃ g cs, v0 = .pointer (some ⟨g, 0, none⟩) ∧ w.heap.size + 3 ≤ g ∧ BigN W' (.agg cs) R ∧ SB w 3 ((g, 51, cs) :: ([(w.heap.size, 28, #[.int .i64 m, .int .i64 (s : Nat)]), (w.heap.size + 1, 28, #[.int .i64 k, .int .i64 (t : Nat)]), (w.heap.size + 1 + 1, 28, #[.int .i64 0, .int .i64 0])] : List (Nat × TypeId × Array Value))) W' := hS
    subst hg0
    have e6 : a.tmps.getD 6 undef = .pointer (some ⟨g, 0, none⟩) := by
      have := hP 0 16 _ 6 rfl (by simp) rfl rfl
      simpa using this.symm
    have e4 : a.tmps.getD 4 undef = .pointer (some ⟨w.heap.size + 1 + 1, 0, none⟩) := hT 4 (by simp)
    have e7 : a.tmps.getD 7 undef = .int .i64 (q : Nat) := hT 7 (by simp)
    clear hT hF hP
    rw [act_lit 29 a hd hsz]
    simp only [List.range, List.range.loop, List.map, e4, e7, e6]
    clear e4 e7 e6 HRND HSB HJ
    have hz4 := hN
    obtain ⟨A4, n4, c4, hcs, -⟩ := hN
    injection hcs with hcs
    subst hcs
    generalize decide (R < 0) = b4 at *
    have kg := hB.bk _ (.head _)
    have cg0 := kg.cell 0
    have cg1 := kg.cell 1
    have hB4 : SB w 3 [(w.heap.size + 1 + 1, 28, #[.int .i64 0, .int .i64 0])] W' := ⟨hB.bel, hB.size, fun z hz => hB.bk z (by
      simp only [List.mem_cons, List.not_mem_nil, or_false] at hz ⊢
      simp [hz])⟩
    clear kg hB
    go_wp2_with fail
    refine (small_any (s := q) hz4 lR (by omega)).mono ?_
    rintro e w5 ⟨rfl, hb5⟩
    rw [HT.out]
    have hB5 := hB4.call hb5
    have kr := hB5.bk _ (.head _)
    have r0 := kr.cell 0
    have r1 := kr.cell 1
    have y0 := kr.frozen 0
    have y1 := kr.frozen 1
    have hbel := hB5.bel
    obtain ⟨dm, ds, de, hD⟩ : ∃ dm ds de, mulD m s k t = ⟨dm, ds, de⟩ := ⟨_, _, _, rfl⟩
    rw [hD]
    dsimp only
    clear hB4 hB5 HT
    go_wp2
    refine bodyPost_ret (v := .tuple #[.agg #[.int .i64 dm, .int .i64 (ds : Nat)], .int .i64 (de : Nat)]) (by simp [results, Tryz.results14, go_sem, r0, r1]) rfl ⟨by first | rfl | rw [hD]; rfl, (hbel.setCell (by simp; omega) _).setCell (by simp; omega) _⟩

set_option maxHeartbeats 2000000 in
theorem bDivz_any {w : World} {m : Int} {s : Nat} :
    Calls Tryz.prog 16 #[.agg #[.int .i64 m, .int .i64 (s : Nat)], .agg #[.int .i64 0, .int .i64 0]] w fun e w' => e = .returned (.tuple #[.agg #[.int .i64 0, .int .i64 0], .int .i64 9]) ∧ Below w.heap.size w w' := by
  go_enter Tryz.func16, Tryz.ntmps16
  go_wp2
  refine bodyPost_ret (v := .tuple #[.agg #[.int .i64 0, .int .i64 0], .int .i64 9]) (by simp [results, Tryz.results16, go_sem]) rfl ⟨rfl, bel2 _ _ _ _⟩

/-- What over tells, as a slot holds it. -/
def FOv (Q : Nat) (hf rs : Bool) : Value → World → Prop := fun v W => ∃ A c, v = .tuple #[.slice A (digs Q).length c, .bool hf, .bool rs] ∧ (digs Q).length ≤ c ∧ c ≤ maxLen ∧ Rd W W.heap.size 1 A (digs Q).length (dcs (digs Q))
theorem st_ov {Q : Nat} {hf rs : Bool} : Stable EI (FOv Q hf rs) := fun v w w' hE h => by
  obtain ⟨A, c, h1, h2, h3, h4⟩ := h
  exact ⟨A, c, h1, h2, h3, h4.ei hE⟩
theorem div_at {m k : Int} {s t M : Nat} (hs : s ≤ M) (ht : t ≤ M) (hM : M ≤ 9) (hM2 : M = max s t) : quo (m * 10 ^ (M - s) * 10 ^ 9).natAbs (k * 10 ^ (M - t)).natAbs = quo (m.natAbs * 10 ^ (9 + t - s)) k.natAbs := by
  rw [Int.natAbs_mul, Int.natAbs_mul, Int.natAbs_mul, Int.natAbs_pow, Int.natAbs_pow, Int.natAbs_pow]
  show quo (m.natAbs * 10 ^ (M - s) * 10 ^ 9) (k.natAbs * 10 ^ (M - t)) = _
  rw [Nat.mul_assoc, ← Nat.pow_add, show M - s + 9 = 9 + t - s + (M - t) by omega, Nat.pow_add, ← Nat.mul_assoc, quo_mul _ _ _ (Nat.pow_pos (by omega))]
theorem sgn_at {m k : Int} {i j : Nat} (V U : Int) (hV : m * 10 ^ i = V) (hU : k * 10 ^ j = U) : (!(decide (V < 0) == decide (U < 0))) = (decide (m < 0) != decide (k < 0)) := by
  have h1 : decide (m * 10 ^ i < 0) = decide (m < 0) := by simp only [neg_pow10]
  have h2 : decide (k * 10 ^ j < 0) = decide (k < 0) := by simp only [neg_pow10]
  rw [← hV, ← hU, h1, h2]
  rfl

set_option maxRecDepth 20000 in
set_option maxHeartbeats 4000000 in
theorem bDiv_any {w : World} {m k : Int} {s t : Nat} (hx : Gd m s) (hy : Gd k t) (hk : k ≠ 0) :
    Calls Tryz.prog 16 #[.agg #[.int .i64 m, .int .i64 (s : Nat)], .agg #[.int .i64 k, .int .i64 (t : Nat)]] w fun e w' => e = .returned (dv (divD m s k t)) ∧ Below w.heap.size w w' := by
  obtain ⟨M, hM⟩ : ∃ M : Nat, max s t = M := ⟨_, rfl⟩
  obtain ⟨V, hV⟩ : ∃ V : Int, m * 10 ^ (M - s) = V := ⟨_, rfl⟩
  obtain ⟨U, hU⟩ : ∃ U : Int, k * 10 ^ (M - t) = U := ⟨_, rfl⟩
  have hM9 : M ≤ 9 := by have := hx.s9; have := hy.s9; omega
  have lV0 : V.natAbs < 10 ^ 40 := by rw [← hV]; exact big40 hx (by omega)
  have lU0 : U.natAbs < 10 ^ 40 := by rw [← hU]; exact big40 hy (by omega)
  have lV : (digs V.natAbs).length ≤ 500 := Nat.le_trans (digs_len.2 lV0) (by omega)
  have lU : (digs U.natAbs).length ≤ 500 := Nat.le_trans (digs_len.2 lU0) (by omega)
  have hsM : s ≤ M := by omega
  have htM : t ≤ M := by omega
  obtain ⟨V9, hV9⟩ : ∃ V9 : Int, V * 10 ^ 9 = V9 := ⟨_, rfl⟩
  have HQ := Lib.hid (show quo V9.natAbs U.natAbs = quo (m.natAbs * 10 ^ (9 + t - s)) k.natAbs by rw [← hV9, ← hV, ← hU]; exact div_at hsM htM hM9 hM.symm)
  have HS := Lib.hid (sgn_at V U hV hU)
  have hU0 : U ≠ 0 := by
    rw [← hU]
    have hp : (0 : Int) < 10 ^ (M - t) := Int.pow_pos (by omega)
    exact Int.mul_ne_zero hk (by omega)
  have lVN : V9.natAbs < 10 ^ 49 := by
    rw [← hV9, Int.natAbs_mul, Int.natAbs_pow]
    have : V.natAbs * 10 ^ 9 < 10 ^ 40 * 10 ^ 9 := Nat.mul_lt_mul_of_pos_right lV0 (by decide)
    exact this
  obtain ⟨NA, hNA⟩ : ∃ NA : Nat, V9.natAbs = NA := ⟨_, rfl⟩
  obtain ⟨NB, hNB⟩ : ∃ NB : Nat, U.natAbs = NB := ⟨_, rfl⟩
  have lNA : (digs NA).length ≤ 200 := Nat.le_trans (digs_len.2 (hNA ▸ lVN)) (by omega)
  have lNB : (digs NB).length ≤ 200 := Nat.le_trans (digs_len.2 (hNB ▸ lU0)) (by omega)
  have hNB0 : 0 < NB := by omega
  obtain ⟨QQ, hQQ⟩ : ∃ QQ, NA / NB = QQ := ⟨_, rfl⟩
  obtain ⟨hf, hhf⟩ : ∃ hf, decide (NB ≤ NA % NB + NA % NB) = hf := ⟨_, rfl⟩
  obtain ⟨rs, hrs⟩ : ∃ rs, decide (0 < NA % NB) = rs := ⟨_, rfl⟩
  have hQl : QQ < 10 ^ 49 := by
    rw [← hQQ]
    exact Nat.lt_of_le_of_lt (Nat.div_le_self _ _) (hNA ▸ lVN)
  have lQ : (digs QQ).length ≤ 100 := Nat.le_trans (digs_len.2 hQl) (by omega)
  have HNA := Lib.hid hNA
  have HQl := Lib.hid hQl
  have HUP : Hid (∀ (W : World) (x : Value), BigN W x V → Calls Tryz.prog 43 #[x, .int .i64 9] W fun e w' => ∃ y, e = .returned y ∧ BigN w' y V9 ∧ Below W.heap.size W w') := Lib.hid (fun W x hx => by
    have h := up_any (k := 9) hx lV (by omega)
    rw [hV9] at h
    exact h)
  have HOV : Hid (∀ (W : World) (A A' : Option Addr) (n n' c c' : Nat), Rd W W.heap.size 1 A n (dcs (digs NA)) → Rd W W.heap.size 1 A' n' (dcs (digs NB)) → Calls Tryz.prog 42 #[.slice A n c, .slice A' n' c'] W fun e w' => ∃ A1 n1 c1, e = .returned (.tuple #[.slice A1 n1 c1, .bool hf, .bool rs]) ∧ n1 ≤ c1 ∧ c1 ≤ maxLen ∧ Rd w' w'.heap.size 1 A1 n1 (dcs (digs QQ)) ∧ Below W.heap.size W w') := Lib.hid (fun W A A' n n' c c' h1 h2 => by
    have h := bOver_any (c := c) (c' := c') h1 h2 hNB0 (by rw [h1.dlen]; exact lNA) (by rw [h2.dlen]; exact lNB)
    rw [hhf, hrs, hQQ] at h
    exact h)
  have HQ2 := Lib.hid (show quo (m.natAbs * 10 ^ (9 + t - s)) k.natAbs = QQ + if hf = true then 1 else 0 by
    rw [← HQ.out, hNA, hNB, ← hQQ, ← hhf]
    unfold quo
    congr 1
    by_cases h : NB ≤ NA % NB + NA % NB
    · rw [if_pos (by omega), if_pos (decide_eq_true h)]
    · rw [if_neg (by omega), if_neg (by rw [decide_eq_false h]; decide)])
  have hk0 : (k == 0) = false := by simpa using hk
  have HAL : Hid (∀ W : World, Calls Tryz.prog 29 #[.agg #[.int .i64 m, .int .i64 (s : Nat)], .agg #[.int .i64 k, .int .i64 (t : Nat)]] W fun e w' => ∃ x y, e = .returned (.tuple #[x, y, .int .i64 (M : Nat)]) ∧ BigN w' x V ∧ BigN w' y U ∧ Below W.heap.size W w') := Lib.hid (fun W => by
    have := alike_any (w := W) hx.lo hx.hi hy.lo hy.hi hx.s9 hy.s9
    rw [hM, hV, hU] at this
    exact this)
  have HSB : Hid (SB w 3 [(w.heap.size + 1 + 1, 28, #[.int .i64 0, .int .i64 0]), (w.heap.size + 1, 28, #[.int .i64 k, .int .i64 (t : Nat)]), (w.heap.size, 28, #[.int .i64 m, .int .i64 (s : Nat)])] (((w.alloc (.cells #[.int .i64 m, .int .i64 (s : Nat)] 28)).alloc (.cells #[.int .i64 k, .int .i64 (t : Nat)] 28)).alloc (.cells #[.int .i64 0, .int .i64 0] 28))) := Lib.hid
    (((sb1 w 28 #[.int .i64 m, .int .i64 (s : Nat)]).push (by simp) 28 #[.int .i64 k, .int .i64 (t : Nat)]).push (by simp) 28 #[.int .i64 0, .int .i64 0])
  clear hx hy hM hV hU lV0 lU0 hsM htM HQ hQQ hhf hrs lVN hNA hV9 hQl
  go_enter Tryz.func16, Tryz.ntmps16
  go_wp2_with fail
  generalize (((w.alloc (.cells #[.int .i64 m, .int .i64 (s : Nat)] 28)).alloc (.cells #[.int .i64 k, .int .i64 (t : Nat)] 28)).alloc (.cells #[.int .i64 0, .int .i64 0] 28)) = w0 at *
  refine (HAL.out w0).mono ?_
  rintro e w1 ⟨x, y, rfl, hx1, hy1, hb1⟩
  have hB1 := HSB.out.call hb1
  clear HSB HAL hb1
  have hx2 := hx1
  have hy2 := hy1
  obtain ⟨A1, n1, c1, rfl, -⟩ := hx1
  obtain ⟨A2, n2, c2, rfl, hn2, hc2, hr2⟩ := hy1
  generalize hb1e : decide (V < 0) = b1 at *
  generalize hb2e : decide (U < 0) = b2 at *
  have HRY : Hid (∀ W : World, BigN W (.agg #[.bool b2, .slice A2 n2 c2]) U → n2 ≤ c2 ∧ c2 ≤ maxLen ∧ Rd W W.heap.size 1 A2 n2 (dcs (digs NB))) := Lib.hid (fun W h => by
    obtain ⟨A', n', c', e, g1, g2, g3⟩ := h
    obtain ⟨-, rfl, rfl, rfl⟩ : b2 = decide (U < 0) ∧ A2 = A' ∧ n2 = n' ∧ c2 = c' := by simpa using e
    rw [hNB] at g3
    exact ⟨g1, g2, g3⟩)
  have hB2 := (hB1.alloc 51 #[.bool b1, .slice A1 n1 c1]).alloc 51 #[.bool b2, .slice A2 n2 c2]
  have hbb := bel1 w1 (.cells #[.bool b1, .slice A1 n1 c1] 51) (.cells #[.bool b2, .slice A2 n2 c2] 51)
  have hx3 := hx2.below hbb
  have hy3 := hy2.below hbb
  simp only [World.size_alloc] at hB2
  have HB3 : Hid (SB w 3 ([(w1.heap.size, 51, #[.bool b1, .slice A1 n1 c1]), (w1.heap.size + 1, 51, #[.bool b2, .slice A2 n2 c2]), (w.heap.size + 1 + 1, 28, #[.int .i64 0, .int .i64 0])] : List (Nat × TypeId × Array Value)) ((w1.alloc (.cells #[.bool b1, .slice A1 n1 c1] 51)).alloc (.cells #[.bool b2, .slice A2 n2 c2] 51))) := Lib.hid ⟨hB2.bel, hB2.size, fun z hz => hB2.bk z (by
    simp only [List.mem_cons, List.not_mem_nil, or_false] at hz ⊢
    rcases hz with e | e | e <;> simp [e])⟩
  clear hx2 hy2 hbb hB2 hB1 hn2 hc2 hr2
  go_wp2_with fail
  generalize ((w1.alloc (.cells #[.bool b1, .slice A1 n1 c1] 51)).alloc (.cells #[.bool b2, .slice A2 n2 c2] 51)) = w2 at *
  generalize w1.heap.size = g6 at *
  generalize g6 + 1 = g7 at *
  have HB1E := Lib.hid hb1e
  have HB2E := Lib.hid hb2e
  clear hb1e hb2e
  have HS0 : Hid ((fun (_ : List Value) W => SB w 3 ([(g6, 51, #[.bool b1, .slice A1 n1 c1]), (g7, 51, #[.bool b2, .slice A2 n2 c2]), (w.heap.size + 1 + 1, 28, #[.int .i64 0, .int .i64 0])] : List (Nat × TypeId × Array Value)) W ∧ BigN W (.agg #[.bool b1, .slice A1 n1 c1]) V ∧ BigN W (.agg #[.bool b2, .slice A2 n2 c2]) U) [] w2.drew) := Lib.hid ⟨HB3.out.drew, hx3.drew, hy3.drew⟩
  clear HB3 hx3 hy3
  refine wp_region_phases (S := (fun (_ : List Value) W => SB w 3 ([(g6, 51, #[.bool b1, .slice A1 n1 c1]), (g7, 51, #[.bool b2, .slice A2 n2 c2]), (w.heap.size + 1 + 1, 28, #[.int .i64 0, .int .i64 0])] : List (Nat × TypeId × Array Value)) W ∧ BigN W (.agg #[.bool b1, .slice A1 n1 c1]) V ∧ BigN W (.agg #[.bool b2, .slice A2 n2 c2]) U)) (E := EI) [] [(4, Is (.pointer (some ⟨w.heap.size + 1 + 1, 0, none⟩))), (6, Is (.pointer (some ⟨g6, 0, none⟩))), (7, Is (.pointer (some ⟨g7, 0, none⟩)))] [(24, FNum V), (25, FNum V9), (26, FRow (digs NA).length (digs NA)), (27, Is (.pointer (some ⟨g7, 1, none⟩))), (28, FRow n2 (digs NB)), (29, FOv QQ hf rs), (23, FOv QQ hf rs), (30, FRow (digs QQ).length (digs QQ)), (31, Is (.bool hf)), (32, Is (.bool rs)), (9, FRow (digs QQ).length (digs QQ)), (10, Is (.bool hf)), (11, Is (.bool rs))]
    [.op [6] none, .op [24] none, .op [25] none, .op [7] none, .op [27] none, .op [26, 28] none, .op [29] none, .op [23] none, .op [23] none, .op [23] none, .op [30] none, .op [31] none, .op [32] none] (by as_aux_lemma => kernel_rfl) ?_ ?_ ?_ ?_ ?_ ⟨stable_is _ _, stable_is _ _, stable_is _ _, st_num, st_num, st_row, stable_is _ _, st_row, st_ov, st_ov, st_row, stable_is _ _, stable_is _ _, st_row, stable_is _ _, stable_is _ _, trivial⟩ ?_ (HS0.out) ?_ ?_
  · as_aux_lemma => kernel_rfl
  · as_aux_lemma => kernel_rfl
  · as_aux_lemma => kernel_rfl
  · as_aux_lemma => kernel_rfl
  · as_aux_lemma => kernel_rfl
  · exact ⟨rfl, rfl, rfl, trivial⟩
  · refine ⟨?_, ?_, ?_, ?_, ?_, ?_, ?_, ?_, ?_, ?_, ?_, ?_, ?_, trivial⟩
    · as_aux_lemma =>
        intro vals a W hS hL
        have e6 : a.tmps.getD 6 undef = .pointer (some ⟨g6, 0, none⟩) := hL.1
        clear hL
        have kb : Bk W g6 51 #[.bool b1, .slice A1 n1 c1] := hS.1.bk _ (.head _)
        have f0 := kb.cell 0
        have f1 := kb.cell 1
        clear kb
        go_simp
        exact ⟨⟨fun d hd => by injection hd with hd; subst hd; exact hS.2.1, fun h => by cases h⟩, hS, EI.refl _⟩
    · as_aux_lemma =>
        intro vals a W hS hL
        have e24 := hL.1
        clear hL
        have hnum24 := e24
        obtain ⟨A24, n24, c24, e24, hm24, hc24, h24⟩ := e24
        rw [show a.tmps.getD 24 undef = _ from e24] at hnum24
        go_simp
        refine (HUP.out _ _ hnum24).mono ?_
        rintro e W1 ⟨y, rfl, hy, hb⟩
        exact ⟨_, rfl, ⟨fun d hd => by injection hd with hd; subst hd; exact hy, fun h => by cases h⟩, ⟨hS.1.call hb, hS.2.1.below hb, hS.2.2.below hb⟩, EI.of_below hb⟩
    · as_aux_lemma =>
        intro vals a W hS hL
        have e25 := hL.1
        clear hL
        have hnum25 := e25
        obtain ⟨A25, n25, c25, e25, hm25, hc25, h25⟩ := e25
        rw [show a.tmps.getD 25 undef = _ from e25] at hnum25
        rw [HNA.out] at h25
        have hfl : (Instr.field 51 (.agg #[.bool (decide (V9 < 0)), .slice A25 n25 c25]) 1).run Tryz.prog W = .ok (.slice A25 n25 c25) W := rfl
        have hl25 := h25.dlen
        subst hl25
        go_simp
        exact ⟨⟨fun d hd => by injection hd with hd; subst hd; exact ⟨A25, c25, rfl, hm25, hc25, h25⟩, fun h => by cases h⟩, hS, EI.refl _⟩
    · as_aux_lemma =>
        intro vals a W hS hL
        have e7 : a.tmps.getD 7 undef = .pointer (some ⟨g7, 0, none⟩) := hL.1
        clear hL
        go_simp
        exact ⟨⟨fun d hd => by injection hd with hd; subst hd; rfl, fun h => by cases h⟩, hS, EI.refl _⟩
    · as_aux_lemma =>
        intro vals a W hS hL
        have e27 : a.tmps.getD 27 undef = .pointer (some ⟨g7, 1, none⟩) := hL.1
        clear hL
        have kb : Bk W g7 51 #[.bool b2, .slice A2 n2 c2] := hS.1.bk _ (.tail _ (.head _))
        have f0 := kb.cell 0
        have f1 := kb.cell 1
        clear kb
        have hRY := HRY.out W hS.2.2
        go_simp
        exact ⟨⟨fun d hd => by injection hd with hd; subst hd; exact ⟨_, _, rfl, hRY.1, hRY.2.1, hRY.2.2⟩, fun h => by cases h⟩, hS, EI.refl _⟩
    · as_aux_lemma =>
        intro vals a W hS hL
        have e26 := hL.1
        have e28 := hL.2.1
        clear hL
        have hr26 := e26
        obtain ⟨A26, c26, e26, hm26, hc26, h26⟩ := e26
        have hr28 := e28
        obtain ⟨A28, c28, e28, hm28, hc28, h28⟩ := e28
        go_simp
        refine (HOV.out _ _ _ _ _ _ _ h26 h28).mono ?_
        rintro e W1 ⟨A5, n5, c5, rfl, hm5, hc5, h5, hb⟩
        have hl5 := h5.dlen
        subst hl5
        exact ⟨_, rfl, ⟨fun d hd => by injection hd with hd; subst hd; exact ⟨A5, c5, rfl, hm5, hc5, h5⟩, fun h => by cases h⟩, ⟨hS.1.call hb, hS.2.1.below hb, hS.2.2.below hb⟩, EI.of_below hb⟩
    · as_aux_lemma =>
        intro vals a W hS hL
        have e29 := hL.1
        clear hL
        obtain ⟨A5, c5, e29, hm5, hc5, h5⟩ := e29
        go_simp
        exact ⟨⟨fun d hd => by injection hd with hd; subst hd; exact ⟨A5, c5, rfl, hm5, hc5, h5⟩, fun h => by cases h⟩, hS, EI.refl _⟩
    · as_aux_lemma =>
        intro vals a W hS hL
        have e23 := hL.1
        clear hL
        obtain ⟨A5, c5, e23, hm5, hc5, h5⟩ := e23
        go_simp
        exact ⟨⟨fun d hd => by injection hd with hd; subst hd; exact ⟨A5, c5, rfl, hm5, hc5, h5⟩, fun h => by cases h⟩, hS, EI.refl _⟩
    · as_aux_lemma =>
        intro vals a W hS hL
        have e23 := hL.1
        clear hL
        obtain ⟨A5, c5, e23, hm5, hc5, h5⟩ := e23
        go_simp
        exact ⟨⟨fun d hd => by injection hd with hd; subst hd; rfl, fun h => by cases h⟩, hS, EI.refl _⟩
    · as_aux_lemma =>
        intro vals a W hS hL
        have e23 := hL.1
        clear hL
        obtain ⟨A5, c5, e23, hm5, hc5, h5⟩ := e23
        go_simp
        exact ⟨⟨fun d hd => by injection hd with hd; subst hd; rfl, fun h => by cases h⟩, hS, EI.refl _⟩
    · as_aux_lemma =>
        intro vals a W hS hL
        have e30 := hL.1
        clear hL
        have hr30 := e30
        obtain ⟨A30, c30, e30, hm30, hc30, h30⟩ := e30
        go_simp
        exact ⟨⟨fun d hd => by injection hd with hd; subst hd; exact ⟨A30, c30, rfl, hm30, hc30, h30⟩, fun h => by cases h⟩, hS, EI.refl _⟩
    · as_aux_lemma =>
        intro vals a W hS hL
        have e31 : a.tmps.getD 31 undef = .bool hf := hL.1
        clear hL
        go_simp
        exact ⟨⟨fun d hd => by injection hd with hd; subst hd; rfl, fun h => by cases h⟩, hS, EI.refl _⟩
    · as_aux_lemma =>
        intro vals a W hS hL
        have e32 : a.tmps.getD 32 undef = .bool rs := hL.1
        clear hL
        go_simp
        exact ⟨⟨fun d hd => by injection hd with hd; subst hd; rfl, fun h => by cases h⟩, hS, EI.refl _⟩
  · intro a W' vals hd hsz hT hF hv hP hS
    obtain ⟨hB, hxx, hyy⟩ : SB w 3 ([(g6, 51, #[.bool b1, .slice A1 n1 c1]), (g7, 51, #[.bool b2, .slice A2 n2 c2]), (w.heap.size + 1 + 1, 28, #[.int .i64 0, .int .i64 0])] : List (Nat × TypeId × Array Value)) W' ∧ BigN W' (.agg #[.bool b1, .slice A1 n1 c1]) V ∧ BigN W' (.agg #[.bool b2, .slice A2 n2 c2]) U := hS
    have e9 : FRow (digs QQ).length (digs QQ) (a.tmps.getD 9 undef) W' := hT 9 (by simp)
    have e4 : a.tmps.getD 4 undef = .pointer (some ⟨w.heap.size + 1 + 1, 0, none⟩) := hT 4 (by simp)
    have e6 : a.tmps.getD 6 undef = .pointer (some ⟨g6, 0, none⟩) := hT 6 (by simp)
    have e7 : a.tmps.getD 7 undef = .pointer (some ⟨g7, 0, none⟩) := hT 7 (by simp)
    have e10 : a.tmps.getD 10 undef = .bool hf := hT 10 (by simp)
    clear hT hF hP hv
    obtain ⟨A9, c9, e9, hm9, hc9, h9⟩ := e9
    rw [act_lit 48 a hd hsz]
    simp only [List.range, List.range.loop, List.map, e4, e6, e7, e9, e10]
    clear e4 e6 e7 e9 e10 HUP HOV HS0 HRY HNA hxx hyy
    have HSN := HS
    clear HS HB1E HB2E
    have k6 := hB.bk _ (.head _)
    have k7 := hB.bk _ (.tail _ (.head _))
    cases hf with
    | true =>
      have HSG : Hid (sgn (!(b1 == b2)) (QQ + 1) = sgn (decide (m < 0) != decide (k < 0)) (quo (m.natAbs * 10 ^ (9 + t - s)) k.natAbs)) := Lib.hid (by rw [HSN.out, HQ2.out]; rfl)
      obtain ⟨ZZ, hZZ⟩ : ∃ ZZ, sgn (decide (m < 0) != decide (k < 0)) (quo (m.natAbs * 10 ^ (9 + t - s)) k.natAbs) = ZZ := ⟨_, rfl⟩
      have HTX : tl ZZ 9 = divD m s k t := by rw [← hZZ]; rfl
      have lZ : (digs ZZ.natAbs).length ≤ 500 := by
        rw [← hZZ, ← HSG.out, sgn_abs]
        exact Nat.le_trans ((digs_len (k := 50)).2 (by have := HQl.out; omega)) (by omega)
      rw [hZZ] at HSG
      clear hZZ HSN HQ2
      have hw := (Below.refl W'.heap.size W').alloc (Nat.le_refl _) (.cells #[.int .i64 1] 3)
      have hB5 := hB.call hw
      have h9' : Rd (W'.alloc (.cells #[.int .i64 1] 3)) (W'.alloc (.cells #[.int .i64 1] 3)).heap.size 1 A9 (digs QQ).length (dcs (digs QQ)) := (h9.below hw).mono hw.size
      have hone : Rd (W'.alloc (.cells #[.int .i64 1] 3)) (W'.alloc (.cells #[.int .i64 1] 3)).heap.size 1 (some ⟨W'.heap.size, 0, none⟩) 1 (dcs [1]) := (Rd.fresh W' 3 1 1 [.int .i64 1] rfl).mono (by simp)
      have HPL := Lib.hid (plus_any (c := c9) (c' := 1) h9' hone (digs_digs _) digs_one.1 (by omega) (by omega))
      clear h9 h9' hone hB hw k6 k7
      go_wp2_with fail
      refine HPL.out.mono ?_
      rintro e w6 ⟨v6, n6, L, rfl, ho6, hd, hv6, -, hb6⟩
      have HBX0 := hB5.call hb6
      obtain ⟨A6, c6, rfl, hnc6, hcm6, hr6⟩ := own_form ho6
      have hv : dval L = QQ + 1 := by rw [hv6, dval_digs, digs_one.2]
      have k6 := HBX0.bk _ (.head _)
      have k7 := HBX0.bk _ (.tail _ (.head _))
      have f60 := k6.cell 0
      have f70 := k7.cell 0
      have HBX : SB w 3 [(w.heap.size + 1 + 1, 28, #[.int .i64 0, .int .i64 0])] w6 := ⟨HBX0.bel, HBX0.size, fun z hz => HBX0.bk z (by
        simp only [List.mem_cons, List.not_mem_nil, or_false] at hz ⊢
        simp [hz])⟩
      clear HPL hB5 hb6 ho6 hv6 k6 k7 HBX0
      go_wp2_with fail
      refine (trim_any (b := !(b1 == b2)) (l := L) ⟨A6, n6, c6, rfl, hnc6, hcm6, hr6⟩).mono ?_
      rintro e w7 ⟨z, rfl, hz, hb7⟩
      have hz4 := bigN_of hd hv hz
      rw [HSG.out] at hz4
      have hB4 := HBX.call hb7
      clear hz hb7
      go_wp2_with fail
      refine (small_any (s := 9) hz4 lZ (by omega)).mono ?_
      rintro e w5 ⟨rfl, hb5⟩
      rw [HTX]
      have hB5 := hB4.call hb5
      have kr := hB5.bk _ (.head _)
      have r0 := kr.cell 0
      have r1 := kr.cell 1
      have y0 := kr.frozen 0
      have y1 := kr.frozen 1
      have hbel := hB5.bel
      obtain ⟨dm, ds, de, hD⟩ : ∃ dm ds de, divD m s k t = ⟨dm, ds, de⟩ := ⟨_, _, _, rfl⟩
      rw [hD]
      dsimp only
      clear hB4 hB5 HTX
      go_wp2
      refine bodyPost_ret (v := .tuple #[.agg #[.int .i64 dm, .int .i64 (ds : Nat)], .int .i64 (de : Nat)]) (by simp [results, Tryz.results16, go_sem, r0, r1]) rfl ⟨by first | rfl | rw [hD]; rfl, (hbel.setCell (by simp; omega) _).setCell (by simp; omega) _⟩
    | false =>
      have HSG : Hid (sgn (!(b1 == b2)) QQ = sgn (decide (m < 0) != decide (k < 0)) (quo (m.natAbs * 10 ^ (9 + t - s)) k.natAbs)) := Lib.hid (by rw [HSN.out, HQ2.out]; rfl)
      obtain ⟨ZZ, hZZ⟩ : ∃ ZZ, sgn (decide (m < 0) != decide (k < 0)) (quo (m.natAbs * 10 ^ (9 + t - s)) k.natAbs) = ZZ := ⟨_, rfl⟩
      have HTX : tl ZZ 9 = divD m s k t := by rw [← hZZ]; rfl
      have lZ : (digs ZZ.natAbs).length ≤ 500 := by
        rw [← hZZ, ← HSG.out, sgn_abs]
        exact Nat.le_trans ((digs_len (k := 50)).2 (by have := HQl.out; omega)) (by omega)
      rw [hZZ] at HSG
      clear hZZ HSN HQ2
      have f60 := k6.cell 0
      have f70 := k7.cell 0
      have hd := digs_digs QQ
      have hv := dval_digs QQ
      generalize digs QQ = L at *
      have HBX : SB w 3 [(w.heap.size + 1 + 1, 28, #[.int .i64 0, .int .i64 0])] W' := ⟨hB.bel, hB.size, fun z hz => hB.bk z (by
        simp only [List.mem_cons, List.not_mem_nil, or_false] at hz ⊢
        simp [hz])⟩
      clear hB k6 k7
      go_wp2_with fail
      refine (trim_any (b := !(b1 == b2)) (l := L) ⟨A9, _, c9, rfl, hm9, hc9, h9⟩).mono ?_
      rintro e w7 ⟨z, rfl, hz, hb7⟩
      have hz4 := bigN_of hd hv hz
      rw [HSG.out] at hz4
      have hB4 := HBX.call hb7
      clear hz hb7
      go_wp2_with fail
      refine (small_any (s := 9) hz4 lZ (by omega)).mono ?_
      rintro e w5 ⟨rfl, hb5⟩
      rw [HTX]
      have hB5 := hB4.call hb5
      have kr := hB5.bk _ (.head _)
      have r0 := kr.cell 0
      have r1 := kr.cell 1
      have y0 := kr.frozen 0
      have y1 := kr.frozen 1
      have hbel := hB5.bel
      obtain ⟨dm, ds, de, hD⟩ : ∃ dm ds de, divD m s k t = ⟨dm, ds, de⟩ := ⟨_, _, _, rfl⟩
      rw [hD]
      dsimp only
      clear hB4 hB5 HTX
      go_wp2
      refine bodyPost_ret (v := .tuple #[.agg #[.int .i64 dm, .int .i64 (ds : Nat)], .int .i64 (de : Nat)]) (by simp [results, Tryz.results16, go_sem, r0, r1]) rfl ⟨by first | rfl | rw [hD]; rfl, (hbel.setCell (by simp; omega) _).setCell (by simp; omega) _⟩
end Go.Proofs.YtgepipapppdhfaaGreatDoor
