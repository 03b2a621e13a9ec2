/- dec: Div by its contract. Condition: what is handed in stands. -/
import Derived.Test.YtgepipapppdhfaaGreatDoorD3
namespace Go.Proofs.YtgepipapppdhfaaGreatDoor
open Go.RowKit

/-- A division by 0. -/
theorem divz_any {w : World} {m : Int} {s : Nat} (hx : Gd m s) :
    Calls Tryz.prog 15 #[.agg #[.int .i64 m, .int .i64 (s : Nat)], .agg #[.int .i64 0, .int .i64 0]] w fun e w' => e = .returned (.tuple #[.agg #[.int .i64 0, .int .i64 0], .int .i64 9]) ∧ Below w.heap.size w w' := by
  have HK := Lib.hid (fun W : World => taken_any (w := W) hx (show Gd 0 0 from ⟨by omega, by omega, by omega, .inl rfl⟩))
  clear hx
  go_enter Tryz.func15, Tryz.ntmps15
  go_wp2_with fail
  refine (HK.out _).mono ?_
  rintro e w1 ⟨rfl, hb⟩
  obtain ⟨k1, k2, k3, hb', -⟩ := bx3 hb
  clear hb
  have c20 := k2.cell 0
  have z30 := k3.frozen 0
  have z31 := k3.frozen 1
  have c30 := k3.cell 0
  have c31 := k3.cell 1
  clear k1 k2 k3
  go_wp2
  refine bodyPost_ret (v := .tuple #[.agg #[.int .i64 0, .int .i64 0], .int .i64 9]) (by simp [results, Tryz.results15, go_sem, c30, c31]) rfl ⟨rfl, (hb'.setCell (by simp <;> omega) _).setCell (by simp <;> omega) _⟩

set_option maxRecDepth 100000 in
set_option maxHeartbeats 2000000 in
theorem div_any {w : World} {m n : Int} {s t : Nat} (hx : Gd m s) (hy : Gd n t) (hn : n ≠ 0) :
    Calls Tryz.prog 15 #[.agg #[.int .i64 m, .int .i64 (s : Nat)], .agg #[.int .i64 n, .int .i64 (t : Nat)]] w fun e w' => e = .returned (dv (divD m s n t)) ∧ Below w.heap.size w w' := by
  have HK := Lib.hid (fun W : World => taken_any (w := W) hx hy)
  have HX := Lib.hid (fun W : World => widen_any (w := W) hx.lo hx.hi)
  have HY := Lib.hid (fun W : World => widen_small (w := W) hy)
  have hs := hx.s9
  have ht := hy.s9
  have hxa := hx.abs
  have hya := hy.abs
  have hp : 10 ^ (9 + t - s) ≤ 10 ^ 18 := pow10_le (by omega)
  have hMK : m.natAbs * 10 ^ (9 + t - s) ≤ 9223372036854775808 * 1000000000000000000 := Nat.mul_le_mul hxa (by omega)
  have HP := Lib.hid (fun W : World => power_b (w := W) (k := 9 + t - s) (by omega))
  have HV := Lib.hid (show divD m s n t = tlb (decide (m < 0) != decide (n < 0)) (quo (m.natAbs * 10 ^ (9 + t - s)) n.natAbs) 9 by rw [tlb_eq]; rfl)
  have hN0 : 0 < n.natAbs := by omega
  obtain ⟨c, hc⟩ : ∃ c, decide (m < 0) = c := ⟨_, rfl⟩
  obtain ⟨d, hd⟩ : ∃ d, decide (n < 0) = d := ⟨_, rfl⟩
  rw [hc] at HX HV
  rw [hd] at HY HV
  have HCD := Lib.hid (And.intro hc hd)
  have HNZ := Lib.hid (show (n == 0) = false by simpa using hn)
  have HSUB := Lib.hid (show IntKind.i64.wrap (9 + (t : Int)) = 9 + (t : Int) ∧ IntKind.i64.wrap (9 + (t : Int) - (s : Int)) = ((9 + t - s : Nat) : Int) by
    rw [show ((9 + t - s : Nat) : Int) = 9 + (t : Int) - (s : Int) by omega]
    exact ⟨IntWalk.i64_in _ (by omega), IntWalk.i64_in _ (by omega)⟩)
  clear hc hd hx hy hn
  generalize m.natAbs = M at *
  generalize n.natAbs = N at *
  generalize 10 ^ (9 + t - s) = K at *
  have HT := Lib.hid (fun W : World => times_any (w := W) (b := c) (n := M) (k := K) (by omega) (by omega))
  generalize M * K = P at *
  have HO := Lib.hid (fun W : World => over_any (w := W) (b := c) (n := P) (k := N) (by omega) (by omega) hN0)
  have hqle := Nat.div_le_self P N
  have hrlt := Nat.mod_lt P hN0
  have HQU := Lib.hid (show quo P N = P / N + if N ≤ 2 * (P % N) then 1 else 0 from rfl)
  generalize P / N = Q at *
  generalize P % N = R at *
  have HG := Lib.hid (fun W : World => grow_any (w := W) (b := c) (n := Q) (by omega))
  have H0 : Hid (SB w 3 ([((w.heap.size + 1 + 1), 23, #[.int .i64 0, .int .i64 0]), ((w.heap.size + 1), 23, #[.int .i64 n, .int .i64 (t : Nat)]), (w.heap.size, 23, #[.int .i64 m, .int .i64 (s : Nat)])] : List (Nat × TypeId × Array Value)) (((w.alloc (.cells #[.int .i64 m, .int .i64 (s : Nat)] 23)).alloc (.cells #[.int .i64 n, .int .i64 (t : Nat)] 23)).alloc (.cells #[.int .i64 0, .int .i64 0] 23))) := Lib.hid (((sb1 w 23 _).push (by simp) 23 _).push (by simp) 23 _)
  by_cases hh : N ≤ 2 * R
  · have HV2 := Lib.hid (show divD m s n t = tlb (c != d) (Q + 1) 9 by rw [HV.out, HQU.out, if_pos hh])
    have hcond : (N : Int) - (R : Int) ≤ (R : Int) := by omega
    have hrn : (R : Int) < (N : Int) := by omega
    have hNb : (N : Int) < 18446744073709551616 := by omega
    have HTL : Hid (∀ W : World, Calls Tryz.prog 26 #[.agg #[.bool (c != d), .int .u64 (hi (Q + 1) : Nat), .int .u64 (lo (Q + 1) : Nat)], .int .i64 9] W fun e w' => e = .returned (dv (tlb (c != d) (Q + 1) 9)) ∧ Below W.heap.size W w') := Lib.hid (fun W => tell_any (w := W) (b := c != d) (n := (Q + 1)) (s := 9) (by omega) (by omega))
    have HCO := Lib.hid hcond
    have HRN := Lib.hid (And.intro hrn hNb)
    clear hh hs ht hxa hya hp hMK hN0 hqle hrlt HV HQU hcond hrn hNb
    go_enter Tryz.func15, Tryz.ntmps15
    go_wp2_with fail
    refine (HK.out _).mono ?_
    rintro e w1 ⟨rfl, hb⟩
    have HB1 := Lib.hid (H0.out.call hb)
    clear H0 hb
    have k3 := HB1.out.bk _ (.tail _ (.head _))
    have c30 := k3.cell 0
    have hnz := HNZ.out
    clear k3
    go_wp2_with fail
    refine (HY.out _).mono ?_
    rintro e w2 ⟨rfl, hb⟩
    have HSB := Lib.hid (HB1.out.call hb)
    clear HB1 hb c30 hnz
    have hfl : (Instr.field 46 (.agg #[.bool d, .int .u64 0, .int .u64 (N : Nat)]) 2).run Tryz.prog w2 = .ok (.int .u64 (N : Nat)) w2 := rfl
    go_wp2
    clear hfl
    refine wp_region_phases (S := (S2 w 3 ([((w.heap.size + 1 + 1), 23, #[.int .i64 0, .int .i64 0]), ((w.heap.size + 1), 23, #[.int .i64 n, .int .i64 (t : Nat)]), (w.heap.size, 23, #[.int .i64 m, .int .i64 (s : Nat)])] : List (Nat × TypeId × Array Value)) 46 #[.bool false, .int .u64 0, .int .u64 0] #[.bool c, .int .u64 (hi (Q) : Nat), .int .u64 (lo (Q) : Nat)])) (E := (fun _ _ => True)) [16, 17] [(2, Is (.pointer (some ⟨w.heap.size, 0, none⟩))), (3, Is (.pointer (some ⟨(w.heap.size + 1), 0, none⟩))), (4, Is (.pointer (some ⟨(w.heap.size + 1 + 1), 0, none⟩))), (6, Is (.int .u64 (N : Nat)))] [(23, Is (.pointer (some ⟨w.heap.size, 0, none⟩))), (24, Is (.int .i64 m)), (25, Is (wd c M)), (26, Is (.pointer (some ⟨(w.heap.size + 1), 1, none⟩))), (27, Is (.int .i64 (t : Nat))), (28, Is (.int .i64 (9 + (t : Int)))), (29, Is (.pointer (some ⟨w.heap.size, 1, none⟩))), (30, Is (.int .i64 (s : Nat))), (31, Is (.int .i64 ((9 + t - s : Nat) : Int))), (32, Is (.int .u64 (K : Nat))), (33, Is (wd c P)), (34, Is (.int .u64 (N : Nat))), (35, Is (.tuple #[.agg #[.bool c, .int .u64 (hi (Q) : Nat), .int .u64 (lo (Q) : Nat)], .int .u64 (R : Nat)])), (22, Is (.tuple #[.agg #[.bool c, .int .u64 (hi (Q) : Nat), .int .u64 (lo (Q) : Nat)], .int .u64 (R : Nat)])), (36, Is (.agg #[.bool c, .int .u64 (hi (Q) : Nat), .int .u64 (lo (Q) : Nat)])), (37, Is (.int .u64 (R : Nat))), (8, Is (.int .u64 (R : Nat)))]
      [.op [2] none, .op [23] none, .op [24] none, .op [3] none, .op [26] none, .op [27] none, .op [2] none, .op [29] none, .op [28, 30] none, .op [31] none, .op [25, 32] none, .op [6] none, .op [33, 34] none, .op [35] none, .op [22] none, .op [22] none, .phase 0 [] [], .phase 1 [36] [(0, 7)], .op [37] none] (by as_aux_lemma => kernel_rfl) ?_ ?_ ?_ ?_ ?_ ⟨stable_is _ _, stable_is _ _, stable_is _ _, stable_is _ _, stable_is _ _, stable_is _ _, stable_is _ _, stable_is _ _, stable_is _ _, stable_is _ _, stable_is _ _, stable_is _ _, stable_is _ _, stable_is _ _, stable_is _ _, stable_is _ _, stable_is _ _, stable_is _ _, stable_is _ _, stable_is _ _, stable_is _ _, trivial⟩ ?_ (HSB.out.drew) ?_ ?_
    · as_aux_lemma => kernel_rfl
    · as_aux_lemma => kernel_rfl
    · as_aux_lemma => kernel_rfl
    · as_aux_lemma => kernel_rfl
    · as_aux_lemma => kernel_rfl
    · exact ⟨rfl, rfl, rfl, rfl, trivial⟩
    · refine ⟨?_, ?_, ?_, ?_, ?_, ?_, ?_, ?_, ?_, ?_, ?_, ?_, ?_, ?_, ?_, ?_, ?_, ?_, ?_, trivial⟩
      · as_aux_lemma =>
          intro vals a W hS hL
          have e2 : a.tmps.getD 2 undef = .pointer (some ⟨w.heap.size, 0, none⟩) := hL.1
          clear hL
          go_simp
          exact ⟨⟨fun d hd => by injection hd with hd; subst hd; rfl, fun h => by cases h⟩, hS, trivial⟩
      · as_aux_lemma =>
          intro vals a W hS hL
          have e23 : a.tmps.getD 23 undef = .pointer (some ⟨w.heap.size, 0, none⟩) := hL.1
          clear hL
          have kb : Bk W w.heap.size 23 #[.int .i64 m, .int .i64 (s : Nat)] := hS.bk (.tail _ (.tail _ (.head _)))
          have f0 := kb.cell 0
          clear kb
          go_simp
          exact ⟨⟨fun d hd => by injection hd with hd; subst hd; rfl, fun h => by cases h⟩, hS, trivial⟩
      · as_aux_lemma =>
          intro vals a W hS hL
          have e24 : a.tmps.getD 24 undef = .int .i64 m := hL.1
          clear hL
          go_simp
          refine (HX.out W).mono ?_
          rintro e W' ⟨rfl, hb⟩
          exact ⟨_, rfl, ⟨fun d hd => by injection hd with hd; subst hd; rfl, fun h => by cases h⟩, hS.call hb, trivial⟩
      · as_aux_lemma =>
          intro vals a W hS hL
          have e3 : a.tmps.getD 3 undef = .pointer (some ⟨(w.heap.size + 1), 0, none⟩) := hL.1
          clear hL
          go_simp
          exact ⟨⟨fun d hd => by injection hd with hd; subst hd; rfl, fun h => by cases h⟩, hS, trivial⟩
      · as_aux_lemma =>
          intro vals a W hS hL
          have e26 : a.tmps.getD 26 undef = .pointer (some ⟨(w.heap.size + 1), 1, none⟩) := hL.1
          clear hL
          have kb : Bk W (w.heap.size + 1) 23 #[.int .i64 n, .int .i64 (t : Nat)] := hS.bk (.tail _ (.head _))
          have f1 := kb.cell 1
          clear kb
          go_simp
          exact ⟨⟨fun d hd => by injection hd with hd; subst hd; rfl, fun h => by cases h⟩, hS, trivial⟩
      · as_aux_lemma =>
          intro vals a W hS hL
          have e27 : a.tmps.getD 27 undef = .int .i64 (t : Nat) := hL.1
          clear hL
          have hsub := HSUB.out.1
          go_simp
          exact ⟨⟨fun d hd => by injection hd with hd; subst hd; rfl, fun h => by cases h⟩, hS, trivial⟩
      · as_aux_lemma =>
          intro vals a W hS hL
          have e2 : a.tmps.getD 2 undef = .pointer (some ⟨w.heap.size, 0, none⟩) := hL.1
          clear hL
          go_simp
          exact ⟨⟨fun d hd => by injection hd with hd; subst hd; rfl, fun h => by cases h⟩, hS, trivial⟩
      · as_aux_lemma =>
          intro vals a W hS hL
          have e29 : a.tmps.getD 29 undef = .pointer (some ⟨w.heap.size, 1, none⟩) := hL.1
          clear hL
          have kb : Bk W w.heap.size 23 #[.int .i64 m, .int .i64 (s : Nat)] := hS.bk (.tail _ (.tail _ (.head _)))
          have f1 := kb.cell 1
          clear kb
          go_simp
          exact ⟨⟨fun d hd => by injection hd with hd; subst hd; rfl, fun h => by cases h⟩, hS, trivial⟩
      · as_aux_lemma =>
          intro vals a W hS hL
          have e28 : a.tmps.getD 28 undef = .int .i64 (9 + (t : Int)) := hL.1
          have e30 : a.tmps.getD 30 undef = .int .i64 (s : Nat) := hL.2.1
          clear hL
          have hsub := HSUB.out.2
          go_simp
          exact ⟨⟨fun d hd => by injection hd with hd; subst hd; rfl, fun h => by cases h⟩, hS, trivial⟩
      · as_aux_lemma =>
          intro vals a W hS hL
          have e31 : a.tmps.getD 31 undef = .int .i64 ((9 + t - s : Nat) : Int) := hL.1
          clear hL
          go_simp
          refine (HP.out W).mono ?_
          rintro e W' ⟨rfl, hb⟩
          exact ⟨_, rfl, ⟨fun d hd => by injection hd with hd; subst hd; rfl, fun h => by cases h⟩, hS.call hb, trivial⟩
      · as_aux_lemma =>
          intro vals a W hS hL
          have e25 : a.tmps.getD 25 undef = wd c M := hL.1
          have e32 : a.tmps.getD 32 undef = .int .u64 (K : Nat) := hL.2.1
          clear hL
          go_simp
          refine (HT.out W).mono ?_
          rintro e W' ⟨rfl, hb⟩
          exact ⟨_, rfl, ⟨fun d hd => by injection hd with hd; subst hd; rfl, fun h => by cases h⟩, hS.call hb, trivial⟩
      · as_aux_lemma =>
          intro vals a W hS hL
          have e6 : a.tmps.getD 6 undef = .int .u64 (N : Nat) := hL.1
          clear hL
          go_simp
          exact ⟨⟨fun d hd => by injection hd with hd; subst hd; rfl, fun h => by cases h⟩, hS, trivial⟩
      · as_aux_lemma =>
          intro vals a W hS hL
          have e33 : a.tmps.getD 33 undef = wd c P := hL.1
          have e34 : a.tmps.getD 34 undef = .int .u64 (N : Nat) := hL.2.1
          clear hL
          go_simp
          refine (HO.out W).mono ?_
          rintro e W' ⟨rfl, hb⟩
          exact ⟨_, rfl, ⟨fun d hd => by injection hd with hd; subst hd; rfl, fun h => by cases h⟩, hS.call hb, trivial⟩
      · as_aux_lemma =>
          intro vals a W hS hL
          have e35 : a.tmps.getD 35 undef = .tuple #[.agg #[.bool c, .int .u64 (hi (Q) : Nat), .int .u64 (lo (Q) : Nat)], .int .u64 (R : Nat)] := hL.1
          clear hL
          go_simp
          exact ⟨⟨fun d hd => by injection hd with hd; subst hd; rfl, fun h => by cases h⟩, hS, trivial⟩
      · as_aux_lemma =>
          intro vals a W hS hL
          have e22 : a.tmps.getD 22 undef = .tuple #[.agg #[.bool c, .int .u64 (hi (Q) : Nat), .int .u64 (lo (Q) : Nat)], .int .u64 (R : Nat)] := hL.1
          clear hL
          go_simp
          exact ⟨⟨fun d hd => by injection hd with hd; subst hd; rfl, fun h => by cases h⟩, hS, trivial⟩
      · as_aux_lemma =>
          intro vals a W hS hL
          have e22 : a.tmps.getD 22 undef = .tuple #[.agg #[.bool c, .int .u64 (hi (Q) : Nat), .int .u64 (lo (Q) : Nat)], .int .u64 (R : Nat)] := hL.1
          clear hL
          go_simp
          exact ⟨⟨fun d hd => by injection hd with hd; subst hd; rfl, fun h => by cases h⟩, hS, trivial⟩
      · as_aux_lemma =>
          intro a W vals hv hS hL hp
          clear hL
          match vals, hv, hS with
          | [], _, hS =>
            have hB : SB w 3 ([((w.heap.size + 1 + 1), 23, #[.int .i64 0, .int .i64 0]), ((w.heap.size + 1), 23, #[.int .i64 n, .int .i64 (t : Nat)]), (w.heap.size, 23, #[.int .i64 m, .int .i64 (s : Nat)])] : List (Nat × TypeId × Array Value)) W := hS
            have hF := hB.alloc 46 #[.bool false, .int .u64 0, .int .u64 0]
            have hz := hB.size
            go_simp
            exact ⟨⟨_, rfl, hz, hF⟩, trivial, trivial⟩
      · as_aux_lemma =>
          intro a W vals hv hS hL hp
          have e36 : a.tmps.getD 36 undef = .agg #[.bool c, .int .u64 (hi (Q) : Nat), .int .u64 (lo (Q) : Nat)] := hL.1
          clear hL
          match vals, hv, hS with
          | [v], _, hS =>
            obtain ⟨g, rfl, hg, hB⟩ := hS
            have e7 := hp.1 (by simp)
            simp only [List.getElem?_cons_zero, Option.some.injEq] at e7
            have kz := hB.bk _ (List.mem_cons_self ..)
            have hlt : ∀ x ∈ ([((w.heap.size + 1 + 1), 23, #[.int .i64 0, .int .i64 0]), ((w.heap.size + 1), 23, #[.int .i64 n, .int .i64 (t : Nat)]), (w.heap.size, 23, #[.int .i64 m, .int .i64 (s : Nat)])] : List (Nat × TypeId × Array Value)), x.1 ≠ g := by simp <;> omega
            have z0 := kz.frozen 0
            have q0 := kz.cell 0
            have z1 := kz.frozen 1
            have q1 := kz.cell 1
            have z2 := kz.frozen 2
            have q2 := kz.cell 2
            have hF := hB.set3 (by omega) hlt (.bool c : Value) (.int .u64 (hi (Q) : Nat) : Value) (.int .u64 (lo (Q) : Nat) : Value)
            rw [Array.getD_eq_getD_getElem?] at e36
            rw [Array.getD_eq_getD_getElem?] at e7
            have e7' := e7.symm
            clear e7
            clear hS kz hB
            go_simp
            exact ⟨⟨g, rfl, hg, hF⟩, trivial, trivial⟩
      · as_aux_lemma =>
          intro vals a W hS hL
          have e37 : a.tmps.getD 37 undef = .int .u64 (R : Nat) := hL.1
          clear hL
          go_simp
          exact ⟨⟨fun d hd => by injection hd with hd; subst hd; rfl, fun h => by cases h⟩, hS, trivial⟩
    · intro a W' vals hd hsz hT hF hv hP hS
      obtain ⟨v0, v1, rfl⟩ : ∃ v0 v1, vals = [v0, v1] := by
        match vals, hv with
        | [x, y], _ => exact ⟨x, y, rfl⟩
      obtain ⟨g, hg0, hg, hB⟩ : ∃ g : Nat, v0 = .pointer (some ⟨g, 0, none⟩) ∧ w.heap.size + 3 ≤ g ∧ SB w 3 ([(g, 46, #[.bool c, .int .u64 (hi (Q) : Nat), .int .u64 (lo (Q) : Nat)]), ((w.heap.size + 1 + 1), 23, #[.int .i64 0, .int .i64 0]), ((w.heap.size + 1), 23, #[.int .i64 n, .int .i64 (t : Nat)]), (w.heap.size, 23, #[.int .i64 m, .int .i64 (s : Nat)])] : List (Nat × TypeId × Array Value)) W' := hS
      subst hg0
      have e7 : a.tmps.getD 7 undef = .pointer (some ⟨g, 0, none⟩) := by
        have := hP 0 16 _ 7 rfl (by simp) rfl rfl
        simpa using this.symm
      have e2 : a.tmps.getD 2 undef = .pointer (some ⟨w.heap.size, 0, none⟩) := hT 2 (by simp)
      have e3 : a.tmps.getD 3 undef = .pointer (some ⟨(w.heap.size + 1), 0, none⟩) := hT 3 (by simp)
      have e4 : a.tmps.getD 4 undef = .pointer (some ⟨(w.heap.size + 1 + 1), 0, none⟩) := hT 4 (by simp)
      have e6 : a.tmps.getD 6 undef = .int .u64 (N : Nat) := hT 6 (by simp)
      have e8 : a.tmps.getD 8 undef = .int .u64 (R : Nat) := hT 8 (by simp)
      clear hT hF hP
      rw [act_lit 57 a hd hsz]
      simp only [List.range, List.range.loop, List.map, e2, e3, e4, e6, e8, e7]
      clear e2 e3 e4 e6 e8 e7
      have k7 := hB.bk _ (List.mem_cons_self ..)
      have c70 := k7.cell 0
      have z70 := k7.frozen 0
      have c71 := k7.cell 1
      have z71 := k7.frozen 1
      have c72 := k7.cell 2
      have z72 := k7.frozen 2
      clear k7
      have k8 := hB.bk _ (.tail _ (.tail _ (.head _)))
      have c80 := k8.cell 0
      have c81 := k8.cell 1
      clear k8
      have k9 := hB.bk _ (.tail _ (.tail _ (.tail _ (.head _))))
      have c90 := k9.cell 0
      have c91 := k9.cell 1
      clear k9
      have HF1 := Lib.hid hB
      have hco := HCO.out
      have hrn := HRN.out.1
      have hNb := HRN.out.2
      have HG0 := Lib.hid hg
      clear hB hg
      go_wp2_with fail
      refine (HG.out _).mono ?_
      rintro e w3 ⟨rfl, hb⟩
      rw [wd_parts]
      have hg := HG0.out
      have hB0 := HF1.out.call hb
      have hne : ∀ x ∈ ([((w.heap.size + 1 + 1), 23, #[.int .i64 0, .int .i64 0]), ((w.heap.size + 1), 23, #[.int .i64 n, .int .i64 (t : Nat)]), (w.heap.size, 23, #[.int .i64 m, .int .i64 (s : Nat)])] : List (Nat × TypeId × Array Value)), x.1 ≠ g := by simp <;> omega
      clear hb HF1 hco hrn hNb c70 z70 c71 z71 c72 z72 c80 c81 c90 c91
      have k7 := hB0.bk _ (.head _)
      have q70 := k7.cell 0
      have q71 := k7.cell 1
      have q72 := k7.cell 2
      have y70 := k7.frozen 0
      have y71 := k7.frozen 1
      have y72 := k7.frozen 2
      have hB := hB0.set3 (by omega) hne (.bool c) (.int .u64 (hi (Q + 1) : Nat)) (.int .u64 (lo (Q + 1) : Nat))
      clear k7 hB0 hne
      have k8 := hB.bk _ (.tail _ (.tail _ (.head _)))
      have c80 := k8.cell 0
      have c81 := k8.cell 1
      clear k8
      have k9 := hB.bk _ (.tail _ (.tail _ (.tail _ (.head _))))
      have c90 := k9.cell 0
      have c91 := k9.cell 1
      clear k9
      have HBB := Lib.hid hB
      have hcd := HCD.out
      obtain ⟨hc, hd⟩ := hcd
      have hne : ∀ x ∈ ([((w.heap.size + 1 + 1), 23, #[.int .i64 0, .int .i64 0]), ((w.heap.size + 1), 23, #[.int .i64 n, .int .i64 (t : Nat)]), (w.heap.size, 23, #[.int .i64 m, .int .i64 (s : Nat)])] : List (Nat × TypeId × Array Value)), x.1 ≠ g := by simp <;> omega
      have hF : SB w 3 ((g, 46, #[.bool (c != d), .int .u64 (hi (Q + 1) : Nat), .int .u64 (lo (Q + 1) : Nat)]) :: ([((w.heap.size + 1 + 1), 23, #[.int .i64 0, .int .i64 0]), ((w.heap.size + 1), 23, #[.int .i64 n, .int .i64 (t : Nat)]), (w.heap.size, 23, #[.int .i64 m, .int .i64 (s : Nat)])] : List (Nat × TypeId × Array Value))) ((((w3.setCell ⟨g, 0, none⟩ (.bool c)).setCell ⟨g, 1, none⟩ (.int .u64 (hi (Q + 1) : Nat))).setCell ⟨g, 2, none⟩ (.int .u64 (lo (Q + 1) : Nat))).setCell ⟨g, 0, none⟩ (.bool (c != d))) := by
        have := HBB.out.set (by omega) hne 0 (.bool (c != d))
        simpa using this
      have HF := Lib.hid hF
      have HG2 := Lib.hid hg
      clear hB hF hne hg HBB
      go_wp2_with fail
      refine (HTL.out _).mono ?_
      rintro e w4 ⟨rfl, hb⟩
      rw [dv_parts]
      have HF2 := HF.out.call hb
      clear hb HF c80 c81 c90 c91 q70 q71 q72 y70 y71 y72
      have k4 := HF2.bk _ (.tail _ (.head _))
      have hbel := HF2.bel
      have c40 := k4.cell 0
      have c41 := k4.cell 1
      have z40 := k4.frozen 0
      have z41 := k4.frozen 1
      clear k4 HF2
      go_wp2
      refine bodyPost_ret (v := dv (tlb (c != d) (Q + 1) 9)) ?_ rfl ⟨by rw [HV2.out], (hbel.setCell (by simp <;> omega) _).setCell (by simp <;> omega) _⟩
      rw [dv_parts]
      simp [results, Tryz.results15, go_sem, c40, c41]
  · have HV2 := Lib.hid (show divD m s n t = tlb (c != d) Q 9 by rw [HV.out, HQU.out, if_neg hh, Nat.add_zero])
    have hcond : decide ((N : Int) - (R : Int) ≤ (R : Int)) = false := decide_eq_false (by omega)
    have hrn : (R : Int) < (N : Int) := by omega
    have hNb : (N : Int) < 18446744073709551616 := by omega
    have HTL : Hid (∀ W : World, Calls Tryz.prog 26 #[.agg #[.bool (c != d), .int .u64 (hi Q : Nat), .int .u64 (lo Q : Nat)], .int .i64 9] W fun e w' => e = .returned (dv (tlb (c != d) Q 9)) ∧ Below W.heap.size W w') := Lib.hid (fun W => tell_any (w := W) (b := c != d) (n := Q) (s := 9) (by omega) (by omega))
    have HCO := Lib.hid hcond
    have HRN := Lib.hid (And.intro hrn hNb)
    clear hh hs ht hxa hya hp hMK hN0 hqle hrlt HV HQU hcond hrn hNb
    go_enter Tryz.func15, Tryz.ntmps15
    go_wp2_with fail
    refine (HK.out _).mono ?_
    rintro e w1 ⟨rfl, hb⟩
    have HB1 := Lib.hid (H0.out.call hb)
    clear H0 hb
    have k3 := HB1.out.bk _ (.tail _ (.head _))
    have c30 := k3.cell 0
    have hnz := HNZ.out
    clear k3
    go_wp2_with fail
    refine (HY.out _).mono ?_
    rintro e w2 ⟨rfl, hb⟩
    have HSB := Lib.hid (HB1.out.call hb)
    clear HB1 hb c30 hnz
    have hfl : (Instr.field 46 (.agg #[.bool d, .int .u64 0, .int .u64 (N : Nat)]) 2).run Tryz.prog w2 = .ok (.int .u64 (N : Nat)) w2 := rfl
    go_wp2
    clear hfl
    refine wp_region_phases (S := (S2 w 3 ([((w.heap.size + 1 + 1), 23, #[.int .i64 0, .int .i64 0]), ((w.heap.size + 1), 23, #[.int .i64 n, .int .i64 (t : Nat)]), (w.heap.size, 23, #[.int .i64 m, .int .i64 (s : Nat)])] : List (Nat × TypeId × Array Value)) 46 #[.bool false, .int .u64 0, .int .u64 0] #[.bool c, .int .u64 (hi (Q) : Nat), .int .u64 (lo (Q) : Nat)])) (E := (fun _ _ => True)) [16, 17] [(2, Is (.pointer (some ⟨w.heap.size, 0, none⟩))), (3, Is (.pointer (some ⟨(w.heap.size + 1), 0, none⟩))), (4, Is (.pointer (some ⟨(w.heap.size + 1 + 1), 0, none⟩))), (6, Is (.int .u64 (N : Nat)))] [(23, Is (.pointer (some ⟨w.heap.size, 0, none⟩))), (24, Is (.int .i64 m)), (25, Is (wd c M)), (26, Is (.pointer (some ⟨(w.heap.size + 1), 1, none⟩))), (27, Is (.int .i64 (t : Nat))), (28, Is (.int .i64 (9 + (t : Int)))), (29, Is (.pointer (some ⟨w.heap.size, 1, none⟩))), (30, Is (.int .i64 (s : Nat))), (31, Is (.int .i64 ((9 + t - s : Nat) : Int))), (32, Is (.int .u64 (K : Nat))), (33, Is (wd c P)), (34, Is (.int .u64 (N : Nat))), (35, Is (.tuple #[.agg #[.bool c, .int .u64 (hi (Q) : Nat), .int .u64 (lo (Q) : Nat)], .int .u64 (R : Nat)])), (22, Is (.tuple #[.agg #[.bool c, .int .u64 (hi (Q) : Nat), .int .u64 (lo (Q) : Nat)], .int .u64 (R : Nat)])), (36, Is (.agg #[.bool c, .int .u64 (hi (Q) : Nat), .int .u64 (lo (Q) : Nat)])), (37, Is (.int .u64 (R : Nat))), (8, Is (.int .u64 (R : Nat)))]
      [.op [2] none, .op [23] none, .op [24] none, .op [3] none, .op [26] none, .op [27] none, .op [2] none, .op [29] none, .op [28, 30] none, .op [31] none, .op [25, 32] none, .op [6] none, .op [33, 34] none, .op [35] none, .op [22] none, .op [22] none, .phase 0 [] [], .phase 1 [36] [(0, 7)], .op [37] none] (by as_aux_lemma => kernel_rfl) ?_ ?_ ?_ ?_ ?_ ⟨stable_is _ _, stable_is _ _, stable_is _ _, stable_is _ _, stable_is _ _, stable_is _ _, stable_is _ _, stable_is _ _, stable_is _ _, stable_is _ _, stable_is _ _, stable_is _ _, stable_is _ _, stable_is _ _, stable_is _ _, stable_is _ _, stable_is _ _, stable_is _ _, stable_is _ _, stable_is _ _, stable_is _ _, trivial⟩ ?_ (HSB.out.drew) ?_ ?_
    · as_aux_lemma => kernel_rfl
    · as_aux_lemma => kernel_rfl
    · as_aux_lemma => kernel_rfl
    · as_aux_lemma => kernel_rfl
    · as_aux_lemma => kernel_rfl
    · exact ⟨rfl, rfl, rfl, rfl, trivial⟩
    · refine ⟨?_, ?_, ?_, ?_, ?_, ?_, ?_, ?_, ?_, ?_, ?_, ?_, ?_, ?_, ?_, ?_, ?_, ?_, ?_, trivial⟩
      · as_aux_lemma =>
          intro vals a W hS hL
          have e2 : a.tmps.getD 2 undef = .pointer (some ⟨w.heap.size, 0, none⟩) := hL.1
          clear hL
          go_simp
          exact ⟨⟨fun d hd => by injection hd with hd; subst hd; rfl, fun h => by cases h⟩, hS, trivial⟩
      · as_aux_lemma =>
          intro vals a W hS hL
          have e23 : a.tmps.getD 23 undef = .pointer (some ⟨w.heap.size, 0, none⟩) := hL.1
          clear hL
          have kb : Bk W w.heap.size 23 #[.int .i64 m, .int .i64 (s : Nat)] := hS.bk (.tail _ (.tail _ (.head _)))
          have f0 := kb.cell 0
          clear kb
          go_simp
          exact ⟨⟨fun d hd => by injection hd with hd; subst hd; rfl, fun h => by cases h⟩, hS, trivial⟩
      · as_aux_lemma =>
          intro vals a W hS hL
          have e24 : a.tmps.getD 24 undef = .int .i64 m := hL.1
          clear hL
          go_simp
          refine (HX.out W).mono ?_
          rintro e W' ⟨rfl, hb⟩
          exact ⟨_, rfl, ⟨fun d hd => by injection hd with hd; subst hd; rfl, fun h => by cases h⟩, hS.call hb, trivial⟩
      · as_aux_lemma =>
          intro vals a W hS hL
          have e3 : a.tmps.getD 3 undef = .pointer (some ⟨(w.heap.size + 1), 0, none⟩) := hL.1
          clear hL
          go_simp
          exact ⟨⟨fun d hd => by injection hd with hd; subst hd; rfl, fun h => by cases h⟩, hS, trivial⟩
      · as_aux_lemma =>
          intro vals a W hS hL
          have e26 : a.tmps.getD 26 undef = .pointer (some ⟨(w.heap.size + 1), 1, none⟩) := hL.1
          clear hL
          have kb : Bk W (w.heap.size + 1) 23 #[.int .i64 n, .int .i64 (t : Nat)] := hS.bk (.tail _ (.head _))
          have f1 := kb.cell 1
          clear kb
          go_simp
          exact ⟨⟨fun d hd => by injection hd with hd; subst hd; rfl, fun h => by cases h⟩, hS, trivial⟩
      · as_aux_lemma =>
          intro vals a W hS hL
          have e27 : a.tmps.getD 27 undef = .int .i64 (t : Nat) := hL.1
          clear hL
          have hsub := HSUB.out.1
          go_simp
          exact ⟨⟨fun d hd => by injection hd with hd; subst hd; rfl, fun h => by cases h⟩, hS, trivial⟩
      · as_aux_lemma =>
          intro vals a W hS hL
          have e2 : a.tmps.getD 2 undef = .pointer (some ⟨w.heap.size, 0, none⟩) := hL.1
          clear hL
          go_simp
          exact ⟨⟨fun d hd => by injection hd with hd; subst hd; rfl, fun h => by cases h⟩, hS, trivial⟩
      · as_aux_lemma =>
          intro vals a W hS hL
          have e29 : a.tmps.getD 29 undef = .pointer (some ⟨w.heap.size, 1, none⟩) := hL.1
          clear hL
          have kb : Bk W w.heap.size 23 #[.int .i64 m, .int .i64 (s : Nat)] := hS.bk (.tail _ (.tail _ (.head _)))
          have f1 := kb.cell 1
          clear kb
          go_simp
          exact ⟨⟨fun d hd => by injection hd with hd; subst hd; rfl, fun h => by cases h⟩, hS, trivial⟩
      · as_aux_lemma =>
          intro vals a W hS hL
          have e28 : a.tmps.getD 28 undef = .int .i64 (9 + (t : Int)) := hL.1
          have e30 : a.tmps.getD 30 undef = .int .i64 (s : Nat) := hL.2.1
          clear hL
          have hsub := HSUB.out.2
          go_simp
          exact ⟨⟨fun d hd => by injection hd with hd; subst hd; rfl, fun h => by cases h⟩, hS, trivial⟩
      · as_aux_lemma =>
          intro vals a W hS hL
          have e31 : a.tmps.getD 31 undef = .int .i64 ((9 + t - s : Nat) : Int) := hL.1
          clear hL
          go_simp
          refine (HP.out W).mono ?_
          rintro e W' ⟨rfl, hb⟩
          exact ⟨_, rfl, ⟨fun d hd => by injection hd with hd; subst hd; rfl, fun h => by cases h⟩, hS.call hb, trivial⟩
      · as_aux_lemma =>
          intro vals a W hS hL
          have e25 : a.tmps.getD 25 undef = wd c M := hL.1
          have e32 : a.tmps.getD 32 undef = .int .u64 (K : Nat) := hL.2.1
          clear hL
          go_simp
          refine (HT.out W).mono ?_
          rintro e W' ⟨rfl, hb⟩
          exact ⟨_, rfl, ⟨fun d hd => by injection hd with hd; subst hd; rfl, fun h => by cases h⟩, hS.call hb, trivial⟩
      · as_aux_lemma =>
          intro vals a W hS hL
          have e6 : a.tmps.getD 6 undef = .int .u64 (N : Nat) := hL.1
          clear hL
          go_simp
          exact ⟨⟨fun d hd => by injection hd with hd; subst hd; rfl, fun h => by cases h⟩, hS, trivial⟩
      · as_aux_lemma =>
          intro vals a W hS hL
          have e33 : a.tmps.getD 33 undef = wd c P := hL.1
          have e34 : a.tmps.getD 34 undef = .int .u64 (N : Nat) := hL.2.1
          clear hL
          go_simp
          refine (HO.out W).mono ?_
          rintro e W' ⟨rfl, hb⟩
          exact ⟨_, rfl, ⟨fun d hd => by injection hd with hd; subst hd; rfl, fun h => by cases h⟩, hS.call hb, trivial⟩
      · as_aux_lemma =>
          intro vals a W hS hL
          have e35 : a.tmps.getD 35 undef = .tuple #[.agg #[.bool c, .int .u64 (hi (Q) : Nat), .int .u64 (lo (Q) : Nat)], .int .u64 (R : Nat)] := hL.1
          clear hL
          go_simp
          exact ⟨⟨fun d hd => by injection hd with hd; subst hd; rfl, fun h => by cases h⟩, hS, trivial⟩
      · as_aux_lemma =>
          intro vals a W hS hL
          have e22 : a.tmps.getD 22 undef = .tuple #[.agg #[.bool c, .int .u64 (hi (Q) : Nat), .int .u64 (lo (Q) : Nat)], .int .u64 (R : Nat)] := hL.1
          clear hL
          go_simp
          exact ⟨⟨fun d hd => by injection hd with hd; subst hd; rfl, fun h => by cases h⟩, hS, trivial⟩
      · as_aux_lemma =>
          intro vals a W hS hL
          have e22 : a.tmps.getD 22 undef = .tuple #[.agg #[.bool c, .int .u64 (hi (Q) : Nat), .int .u64 (lo (Q) : Nat)], .int .u64 (R : Nat)] := hL.1
          clear hL
          go_simp
          exact ⟨⟨fun d hd => by injection hd with hd; subst hd; rfl, fun h => by cases h⟩, hS, trivial⟩
      · as_aux_lemma =>
          intro a W vals hv hS hL hp
          clear hL
          match vals, hv, hS with
          | [], _, hS =>
            have hB : SB w 3 ([((w.heap.size + 1 + 1), 23, #[.int .i64 0, .int .i64 0]), ((w.heap.size + 1), 23, #[.int .i64 n, .int .i64 (t : Nat)]), (w.heap.size, 23, #[.int .i64 m, .int .i64 (s : Nat)])] : List (Nat × TypeId × Array Value)) W := hS
            have hF := hB.alloc 46 #[.bool false, .int .u64 0, .int .u64 0]
            have hz := hB.size
            go_simp
            exact ⟨⟨_, rfl, hz, hF⟩, trivial, trivial⟩
      · as_aux_lemma =>
          intro a W vals hv hS hL hp
          have e36 : a.tmps.getD 36 undef = .agg #[.bool c, .int .u64 (hi (Q) : Nat), .int .u64 (lo (Q) : Nat)] := hL.1
          clear hL
          match vals, hv, hS with
          | [v], _, hS =>
            obtain ⟨g, rfl, hg, hB⟩ := hS
            have e7 := hp.1 (by simp)
            simp only [List.getElem?_cons_zero, Option.some.injEq] at e7
            have kz := hB.bk _ (List.mem_cons_self ..)
            have hlt : ∀ x ∈ ([((w.heap.size + 1 + 1), 23, #[.int .i64 0, .int .i64 0]), ((w.heap.size + 1), 23, #[.int .i64 n, .int .i64 (t : Nat)]), (w.heap.size, 23, #[.int .i64 m, .int .i64 (s : Nat)])] : List (Nat × TypeId × Array Value)), x.1 ≠ g := by simp <;> omega
            have z0 := kz.frozen 0
            have q0 := kz.cell 0
            have z1 := kz.frozen 1
            have q1 := kz.cell 1
            have z2 := kz.frozen 2
            have q2 := kz.cell 2
            have hF := hB.set3 (by omega) hlt (.bool c : Value) (.int .u64 (hi (Q) : Nat) : Value) (.int .u64 (lo (Q) : Nat) : Value)
            rw [Array.getD_eq_getD_getElem?] at e36
            rw [Array.getD_eq_getD_getElem?] at e7
            have e7' := e7.symm
            clear e7
            clear hS kz hB
            go_simp
            exact ⟨⟨g, rfl, hg, hF⟩, trivial, trivial⟩
      · as_aux_lemma =>
          intro vals a W hS hL
          have e37 : a.tmps.getD 37 undef = .int .u64 (R : Nat) := hL.1
          clear hL
          go_simp
          exact ⟨⟨fun d hd => by injection hd with hd; subst hd; rfl, fun h => by cases h⟩, hS, trivial⟩
    · intro a W' vals hd hsz hT hF hv hP hS
      obtain ⟨v0, v1, rfl⟩ : ∃ v0 v1, vals = [v0, v1] := by
        match vals, hv with
        | [x, y], _ => exact ⟨x, y, rfl⟩
      obtain ⟨g, hg0, hg, hB⟩ : ∃ g : Nat, v0 = .pointer (some ⟨g, 0, none⟩) ∧ w.heap.size + 3 ≤ g ∧ SB w 3 ([(g, 46, #[.bool c, .int .u64 (hi (Q) : Nat), .int .u64 (lo (Q) : Nat)]), ((w.heap.size + 1 + 1), 23, #[.int .i64 0, .int .i64 0]), ((w.heap.size + 1), 23, #[.int .i64 n, .int .i64 (t : Nat)]), (w.heap.size, 23, #[.int .i64 m, .int .i64 (s : Nat)])] : List (Nat × TypeId × Array Value)) W' := hS
      subst hg0
      have e7 : a.tmps.getD 7 undef = .pointer (some ⟨g, 0, none⟩) := by
        have := hP 0 16 _ 7 rfl (by simp) rfl rfl
        simpa using this.symm
      have e2 : a.tmps.getD 2 undef = .pointer (some ⟨w.heap.size, 0, none⟩) := hT 2 (by simp)
      have e3 : a.tmps.getD 3 undef = .pointer (some ⟨(w.heap.size + 1), 0, none⟩) := hT 3 (by simp)
      have e4 : a.tmps.getD 4 undef = .pointer (some ⟨(w.heap.size + 1 + 1), 0, none⟩) := hT 4 (by simp)
      have e6 : a.tmps.getD 6 undef = .int .u64 (N : Nat) := hT 6 (by simp)
      have e8 : a.tmps.getD 8 undef = .int .u64 (R : Nat) := hT 8 (by simp)
      clear hT hF hP
      rw [act_lit 57 a hd hsz]
      simp only [List.range, List.range.loop, List.map, e2, e3, e4, e6, e8, e7]
      clear e2 e3 e4 e6 e8 e7
      have k7 := hB.bk _ (List.mem_cons_self ..)
      have c70 := k7.cell 0
      have z70 := k7.frozen 0
      have c71 := k7.cell 1
      have z71 := k7.frozen 1
      have c72 := k7.cell 2
      have z72 := k7.frozen 2
      clear k7
      have k8 := hB.bk _ (.tail _ (.tail _ (.head _)))
      have c80 := k8.cell 0
      have c81 := k8.cell 1
      clear k8
      have k9 := hB.bk _ (.tail _ (.tail _ (.tail _ (.head _))))
      have c90 := k9.cell 0
      have c91 := k9.cell 1
      clear k9
      have hco := HCO.out
      have hrn := HRN.out.1
      have hNb := HRN.out.2
      have HBB := Lib.hid hB
      have hcd := HCD.out
      obtain ⟨hc, hd⟩ := hcd
      have hne : ∀ x ∈ ([((w.heap.size + 1 + 1), 23, #[.int .i64 0, .int .i64 0]), ((w.heap.size + 1), 23, #[.int .i64 n, .int .i64 (t : Nat)]), (w.heap.size, 23, #[.int .i64 m, .int .i64 (s : Nat)])] : List (Nat × TypeId × Array Value)), x.1 ≠ g := by simp <;> omega
      have hF : SB w 3 ((g, 46, #[.bool (c != d), .int .u64 (hi Q : Nat), .int .u64 (lo Q : Nat)]) :: ([((w.heap.size + 1 + 1), 23, #[.int .i64 0, .int .i64 0]), ((w.heap.size + 1), 23, #[.int .i64 n, .int .i64 (t : Nat)]), (w.heap.size, 23, #[.int .i64 m, .int .i64 (s : Nat)])] : List (Nat × TypeId × Array Value))) (W'.setCell ⟨g, 0, none⟩ (.bool (c != d))) := by
        have := HBB.out.set (by omega) hne 0 (.bool (c != d))
        simpa using this
      have HF := Lib.hid hF
      have HG2 := Lib.hid hg
      clear hB hF hne hg HBB
      go_wp2_with fail
      refine (HTL.out _).mono ?_
      rintro e w4 ⟨rfl, hb⟩
      rw [dv_parts]
      have HF2 := HF.out.call hb
      clear hb HF c70 z70 c71 z71 c72 z72 c80 c81 c90 c91 hco hrn hNb
      have k4 := HF2.bk _ (.tail _ (.head _))
      have hbel := HF2.bel
      have c40 := k4.cell 0
      have c41 := k4.cell 1
      have z40 := k4.frozen 0
      have z41 := k4.frozen 1
      clear k4 HF2
      go_wp2
      refine bodyPost_ret (v := dv (tlb (c != d) Q 9)) ?_ rfl ⟨by rw [HV2.out], (hbel.setCell (by simp <;> omega) _).setCell (by simp <;> omega) _⟩
      rw [dv_parts]
      simp [results, Tryz.results15, go_sem, c40, c41]
end Go.Proofs.YtgepipapppdhfaaGreatDoor
