/- cashbooklaw4.DecOrder by its contract in some orders of its arguments: it returns true. Condition: decimals that stand. -/
import Derived.Test.YtfkfgfajdmacbaaDoorOrderA
namespace Go.Proofs.YtfkfgfajdmacbaaDoor
open Go.RowKit

set_option maxRecDepth 100000 in
set_option maxHeartbeats 2000000 in
theorem order_0_mn {w : World} {m n k : Int} {s t u : Nat} (hx : Gd m s) (hy : Gd n t) (hz : Gd k u) (hmn : m ≠ n) (hX : cmp (val m s) (val n t) = (-1)) (hX2 : cmp (val n t) (val m s) = 1) (hY : cmp (val n t) (val k u) = (-1)) (hZ : cmp (val m s) (val k u) = (-1)) :
    Calls Tryd.prog 7 #[.agg #[.int .i64 m, .int .i64 (s : Nat)], .agg #[.int .i64 n, .int .i64 (t : Nat)], .agg #[.int .i64 k, .int .i64 (u : Nat)]] w fun e w' => e = .returned (.bool true) ∧ Below w.heap.size w w' := by
  have HK := Lib.hid (fun W : World => known4_any W)
  have HG1 := Lib.hid (fun W : World => goodT (w := W) hx.ck hy.ck)
  have HG2 := Lib.hid (fun W : World => goodT (w := W) hy.ck hz.ck)
  have HXY : Hid (∀ W : World, Calls Tryd.prog 20 #[.agg #[.int .i64 m, .int .i64 (s : Nat)], .agg #[.int .i64 n, .int .i64 (t : Nat)]] W fun e w' => e = .returned (.int .i64 (-1)) ∧ Below W.heap.size W w') := Lib.hid (fun _ => hX ▸ compare_any hx hy)
  have HYZ : Hid (∀ W : World, Calls Tryd.prog 20 #[.agg #[.int .i64 n, .int .i64 (t : Nat)], .agg #[.int .i64 k, .int .i64 (u : Nat)]] W fun e w' => e = .returned (.int .i64 (-1)) ∧ Below W.heap.size W w') := Lib.hid (fun _ => hY ▸ compare_any hy hz)
  have HXZ : Hid (∀ W : World, Calls Tryd.prog 20 #[.agg #[.int .i64 m, .int .i64 (s : Nat)], .agg #[.int .i64 k, .int .i64 (u : Nat)]] W fun e w' => e = .returned (.int .i64 (-1)) ∧ Below W.heap.size W w') := Lib.hid (fun _ => hZ ▸ compare_any hx hz)
  have HYX : Hid (∀ W : World, Calls Tryd.prog 20 #[.agg #[.int .i64 n, .int .i64 (t : Nat)], .agg #[.int .i64 m, .int .i64 (s : Nat)]] W fun e w' => e = .returned (.int .i64 1) ∧ Below W.heap.size W w') := Lib.hid (fun _ => hX2 ▸ compare_any hy hx)
  have HP : Hid (∀ W : World, Calls Tryd.prog 18 #[.agg #[.int .i64 m, .int .i64 (s : Nat)], .agg #[.int .i64 k, .int .i64 (u : Nat)]] W fun e w' => e = .returned (.tuple #[.agg #[.int .i64 (addD m s k u).m, .int .i64 ((addD m s k u).s : Nat)], .int .i64 ((addD m s k u).e : Nat)]) ∧ Below W.heap.size W w') := Lib.hid (fun _ => dadd_any hx hz)
  have HQ : Hid (∀ W : World, Calls Tryd.prog 18 #[.agg #[.int .i64 n, .int .i64 (t : Nat)], .agg #[.int .i64 k, .int .i64 (u : Nat)]] W fun e w' => e = .returned (.tuple #[.agg #[.int .i64 (addD n t k u).m, .int .i64 ((addD n t k u).s : Nat)], .int .i64 ((addD n t k u).e : Nat)]) ∧ Below W.heap.size W w') := Lib.hid (fun _ => dadd_any hy hz)
  have HR : Hid (((addD m s k u).e : Int) = 0 → ((addD n t k u).e : Int) = 0 → Hid (∀ W : World, Calls Tryd.prog 20 #[.agg #[.int .i64 (addD m s k u).m, .int .i64 ((addD m s k u).s : Nat)], .agg #[.int .i64 (addD n t k u).m, .int .i64 ((addD n t k u).s : Nat)]] W fun e w' => e = .returned (.int .i64 (-1)) ∧ Below W.heap.size W w')) := Lib.hid (fun h1 h2 => Lib.hid (fun W => by
    obtain ⟨g1, v1⟩ := add_ok (m := m) (n := k) (s := s) (t := u) (by omega)
    obtain ⟨g2, v2⟩ := add_ok (m := n) (n := k) (s := t) (t := u) (by omega)
    have := compare_any (w := W) g1 g2
    rw [v1, v2, cmp_add, hX] at this
    exact this))
  have hE1 : ((addD m s k u).e : Int) = 0 ∨ ((addD m s k u).e : Int) = 8 := by
    have := tl_e (val m s + val k u) 9
    unfold addD
    omega
  have hE2 : ((addD n t k u).e : Int) = 0 ∨ ((addD n t k u).e : Int) = 8 := by
    have := tl_e (val n t + val k u) 9
    unfold addD
    omega
  have hne : (m == n) = false := by simpa using hmn
  clear hmn
  clear hX hX2 hY hZ
  generalize ((addD m s k u).e : Int) = E1 at *
  generalize (addD m s k u).m = p at *
  generalize (addD m s k u).s = q at *
  generalize ((addD n t k u).e : Int) = E2 at *
  generalize (addD n t k u).m = p' at *
  generalize (addD n t k u).s = q' at *
  have Hhe := Lib.hid (And.intro hE1 hE2)
  clear hE1 hE2 hy hx hz
  have H0 : Hid (SB w 3 [((w.heap.size + 1 + 1), 23, #[.int .i64 k, .int .i64 (u : Nat)]), ((w.heap.size + 1), 23, #[.int .i64 n, .int .i64 (t : Nat)]), (w.heap.size, 23, #[.int .i64 m, .int .i64 (s : Nat)])] (((w.alloc (.cells #[.int .i64 m, .int .i64 (s : Nat)] 23)).alloc (.cells #[.int .i64 n, .int .i64 (t : Nat)] 23)).alloc (.cells #[.int .i64 k, .int .i64 (u : Nat)] 23))) := Lib.hid (((sb1 w 23 _).push (by simp) 23 _).push (by simp) 23 _)
  go_enter Tryd.func7, Tryd.ntmps7
  go_wp2_with fail
  refine (HK.out _).mono ?_
  rintro e w1 ⟨rfl, hb⟩
  have HB := Lib.hid (H0.out.call hb)
  clear hb H0
  have q0 := HB.out.bk _ (.head _)
  have c00 := q0.cell 0
  have c01 := q0.cell 1
  clear q0
  have q1 := HB.out.bk _ (.tail _ (.head _))
  have c10 := q1.cell 0
  have c11 := q1.cell 1
  clear q1
  have q2 := HB.out.bk _ (.tail _ (.tail _ (.head _)))
  have c20 := q2.cell 0
  have c21 := q2.cell 1
  clear q2
  go_wp2_with fail
  refine (HG1.out _).mono ?_
  rintro e w2 ⟨rfl, hb⟩
  clear c00 c01 c10 c11 c20 c21
  have HB2 := Lib.hid (HB.out.call hb)
  clear hb HB
  have HB := HB2
  clear HB2
  have q0 := HB.out.bk _ (.head _)
  have c00 := q0.cell 0
  have c01 := q0.cell 1
  clear q0
  have q1 := HB.out.bk _ (.tail _ (.head _))
  have c10 := q1.cell 0
  have c11 := q1.cell 1
  clear q1
  have q2 := HB.out.bk _ (.tail _ (.tail _ (.head _)))
  have c20 := q2.cell 0
  have c21 := q2.cell 1
  clear q2
  go_wp2_with fail
  refine (HG2.out _).mono ?_
  rintro e w3 ⟨rfl, hb⟩
  clear c00 c01 c10 c11 c20 c21
  have HB3 := Lib.hid (HB.out.call hb)
  clear hb HB
  have HB := HB3
  clear HB3
  go_wp2_with fail
  refine wp_region_phases (S := (S1 w 3 ([((w.heap.size + 1 + 1), 23, #[.int .i64 k, .int .i64 (u : Nat)]), ((w.heap.size + 1), 23, #[.int .i64 n, .int .i64 (t : Nat)]), (w.heap.size, 23, #[.int .i64 m, .int .i64 (s : Nat)])] : List (Nat × TypeId × Array Value)) ([((w.heap.size + 1 + 1), 23, #[.int .i64 k, .int .i64 (u : Nat)]), ((w.heap.size + 1), 23, #[.int .i64 n, .int .i64 (t : Nat)]), (w.heap.size, 23, #[.int .i64 m, .int .i64 (s : Nat)])] : List (Nat × TypeId × Array Value)))) (E := (fun _ _ => True)) [] [(3, Is (.pointer (some ⟨w.heap.size, 0, none⟩))), (4, Is (.pointer (some ⟨(w.heap.size + 1), 0, none⟩))), (5, Is (.pointer (some ⟨(w.heap.size + 1 + 1), 0, none⟩)))] [(26, Is (.agg #[.int .i64 m, .int .i64 (s : Nat)])), (27, Is (.agg #[.int .i64 n, .int .i64 (t : Nat)])), (28, Is (.int .i64 (-1))), (29, Is (.agg #[.int .i64 n, .int .i64 (t : Nat)])), (30, Is (.agg #[.int .i64 k, .int .i64 (u : Nat)])), (31, Is (.int .i64 (-1))), (32, Is (.agg #[.int .i64 m, .int .i64 (s : Nat)])), (33, Is (.agg #[.int .i64 k, .int .i64 (u : Nat)])), (34, Is (.int .i64 (-1))), (7, Is (.int .i64 (-1))), (8, Is (.int .i64 (-1))), (9, Is (.int .i64 (-1)))]
    [.op [3] none, .op [4] none, .op [26, 27] none, .op [4] none, .op [5] none, .op [29, 30] none, .op [3] none, .op [5] none, .op [32, 33] none, .op [28] none, .op [31] none, .op [34] none] (by as_aux_lemma => kernel_rfl) ?_ ?_ ?_ ?_ ?_ ⟨stable_is _ _, stable_is _ _, stable_is _ _, stable_is _ _, stable_is _ _, stable_is _ _, stable_is _ _, stable_is _ _, stable_is _ _, stable_is _ _, stable_is _ _, stable_is _ _, stable_is _ _, stable_is _ _, stable_is _ _, trivial⟩ ?_ (HB.out.drew) ?_ ?_
  · as_aux_lemma => kernel_rfl
  · as_aux_lemma => kernel_rfl
  · as_aux_lemma => kernel_rfl
  · as_aux_lemma => kernel_rfl
  · as_aux_lemma => kernel_rfl
  · exact ⟨rfl, rfl, rfl, trivial⟩
  · refine ⟨?_, ?_, ?_, ?_, ?_, ?_, ?_, ?_, ?_, ?_, ?_, ?_, trivial⟩
    · as_aux_lemma =>
        intro vals a W hS hL
        have e3 : a.tmps.getD 3 undef = .pointer (some ⟨w.heap.size, 0, none⟩) := hL.1
        clear hL
        have kb : Bk W w.heap.size 23 #[.int .i64 m, .int .i64 (s : Nat)] := hS.bk (.tail _ (.tail _ (.head _))) (.tail _ (.tail _ (.head _)))
        have f0 := kb.cell 0
        have f1 := kb.cell 1
        clear kb
        go_simp
        exact ⟨⟨fun d hd => by injection hd with hd; subst hd; rfl, fun h => by cases h⟩, hS, trivial⟩
    · as_aux_lemma =>
        intro vals a W hS hL
        have e4 : a.tmps.getD 4 undef = .pointer (some ⟨(w.heap.size + 1), 0, none⟩) := hL.1
        clear hL
        have kb : Bk W (w.heap.size + 1) 23 #[.int .i64 n, .int .i64 (t : Nat)] := hS.bk (.tail _ (.head _)) (.tail _ (.head _))
        have f0 := kb.cell 0
        have f1 := kb.cell 1
        clear kb
        go_simp
        exact ⟨⟨fun d hd => by injection hd with hd; subst hd; rfl, fun h => by cases h⟩, hS, trivial⟩
    · as_aux_lemma =>
        intro vals a W hS hL
        have e26 : a.tmps.getD 26 undef = .agg #[.int .i64 m, .int .i64 (s : Nat)] := hL.1
        have e27 : a.tmps.getD 27 undef = .agg #[.int .i64 n, .int .i64 (t : Nat)] := hL.2.1
        clear hL
        go_simp
        refine (HXY.out W).mono ?_
        rintro e W' ⟨rfl, hb⟩
        exact ⟨_, rfl, ⟨fun d hd => by injection hd with hd; subst hd; rfl, fun h => by cases h⟩, hS.call hb, trivial⟩
    · as_aux_lemma =>
        intro vals a W hS hL
        have e4 : a.tmps.getD 4 undef = .pointer (some ⟨(w.heap.size + 1), 0, none⟩) := hL.1
        clear hL
        have kb : Bk W (w.heap.size + 1) 23 #[.int .i64 n, .int .i64 (t : Nat)] := hS.bk (.tail _ (.head _)) (.tail _ (.head _))
        have f0 := kb.cell 0
        have f1 := kb.cell 1
        clear kb
        go_simp
        exact ⟨⟨fun d hd => by injection hd with hd; subst hd; rfl, fun h => by cases h⟩, hS, trivial⟩
    · as_aux_lemma =>
        intro vals a W hS hL
        have e5 : a.tmps.getD 5 undef = .pointer (some ⟨(w.heap.size + 1 + 1), 0, none⟩) := hL.1
        clear hL
        have kb : Bk W (w.heap.size + 1 + 1) 23 #[.int .i64 k, .int .i64 (u : Nat)] := hS.bk (.head _) (.head _)
        have f0 := kb.cell 0
        have f1 := kb.cell 1
        clear kb
        go_simp
        exact ⟨⟨fun d hd => by injection hd with hd; subst hd; rfl, fun h => by cases h⟩, hS, trivial⟩
    · as_aux_lemma =>
        intro vals a W hS hL
        have e29 : a.tmps.getD 29 undef = .agg #[.int .i64 n, .int .i64 (t : Nat)] := hL.1
        have e30 : a.tmps.getD 30 undef = .agg #[.int .i64 k, .int .i64 (u : Nat)] := hL.2.1
        clear hL
        go_simp
        refine (HYZ.out W).mono ?_
        rintro e W' ⟨rfl, hb⟩
        exact ⟨_, rfl, ⟨fun d hd => by injection hd with hd; subst hd; rfl, fun h => by cases h⟩, hS.call hb, trivial⟩
    · as_aux_lemma =>
        intro vals a W hS hL
        have e3 : a.tmps.getD 3 undef = .pointer (some ⟨w.heap.size, 0, none⟩) := hL.1
        clear hL
        have kb : Bk W w.heap.size 23 #[.int .i64 m, .int .i64 (s : Nat)] := hS.bk (.tail _ (.tail _ (.head _))) (.tail _ (.tail _ (.head _)))
        have f0 := kb.cell 0
        have f1 := kb.cell 1
        clear kb
        go_simp
        exact ⟨⟨fun d hd => by injection hd with hd; subst hd; rfl, fun h => by cases h⟩, hS, trivial⟩
    · as_aux_lemma =>
        intro vals a W hS hL
        have e5 : a.tmps.getD 5 undef = .pointer (some ⟨(w.heap.size + 1 + 1), 0, none⟩) := hL.1
        clear hL
        have kb : Bk W (w.heap.size + 1 + 1) 23 #[.int .i64 k, .int .i64 (u : Nat)] := hS.bk (.head _) (.head _)
        have f0 := kb.cell 0
        have f1 := kb.cell 1
        clear kb
        go_simp
        exact ⟨⟨fun d hd => by injection hd with hd; subst hd; rfl, fun h => by cases h⟩, hS, trivial⟩
    · as_aux_lemma =>
        intro vals a W hS hL
        have e32 : a.tmps.getD 32 undef = .agg #[.int .i64 m, .int .i64 (s : Nat)] := hL.1
        have e33 : a.tmps.getD 33 undef = .agg #[.int .i64 k, .int .i64 (u : Nat)] := hL.2.1
        clear hL
        go_simp
        refine (HXZ.out W).mono ?_
        rintro e W' ⟨rfl, hb⟩
        exact ⟨_, rfl, ⟨fun d hd => by injection hd with hd; subst hd; rfl, fun h => by cases h⟩, hS.call hb, trivial⟩
    · as_aux_lemma =>
        intro vals a W hS hL
        have e28 : a.tmps.getD 28 undef = .int .i64 (-1) := hL.1
        clear hL
        go_simp
        exact ⟨⟨fun d hd => by injection hd with hd; subst hd; rfl, fun h => by cases h⟩, hS, trivial⟩
    · as_aux_lemma =>
        intro vals a W hS hL
        have e31 : a.tmps.getD 31 undef = .int .i64 (-1) := hL.1
        clear hL
        go_simp
        exact ⟨⟨fun d hd => by injection hd with hd; subst hd; rfl, fun h => by cases h⟩, hS, trivial⟩
    · as_aux_lemma =>
        intro vals a W hS hL
        have e34 : a.tmps.getD 34 undef = .int .i64 (-1) := hL.1
        clear hL
        go_simp
        exact ⟨⟨fun d hd => by injection hd with hd; subst hd; rfl, fun h => by cases h⟩, hS, trivial⟩
  · intro a W' vals hd hsz hT hF hv hP hS
    obtain rfl : vals = [] := List.eq_nil_of_length_eq_zero hv
    have hB : SB w 3 ([((w.heap.size + 1 + 1), 23, #[.int .i64 k, .int .i64 (u : Nat)]), ((w.heap.size + 1), 23, #[.int .i64 n, .int .i64 (t : Nat)]), (w.heap.size, 23, #[.int .i64 m, .int .i64 (s : Nat)])] : List (Nat × TypeId × Array Value)) W' := hS
    clear hS
    have e3 : a.tmps.getD 3 undef = .pointer (some ⟨w.heap.size, 0, none⟩) := hT 3 (by simp)
    have e4 : a.tmps.getD 4 undef = .pointer (some ⟨(w.heap.size + 1), 0, none⟩) := hT 4 (by simp)
    have e5 : a.tmps.getD 5 undef = .pointer (some ⟨(w.heap.size + 1 + 1), 0, none⟩) := hT 5 (by simp)
    have e7 : a.tmps.getD 7 undef = .int .i64 (-1) := hT 7 (by simp)
    have e8 : a.tmps.getD 8 undef = .int .i64 (-1) := hT 8 (by simp)
    have e9 : a.tmps.getD 9 undef = .int .i64 (-1) := hT 9 (by simp)
    clear hT hF hP
    rw [act_lit 98 a hd hsz]
    simp only [List.range, List.range.loop, List.map, e3, e4, e5, e7, e8, e9]
    clear e3 e4 e5 e7 e8 e9
    have k5 := hB.bk _ (List.mem_cons_self ..)
    have c50 := k5.cell 0
    have c51 := k5.cell 1
    clear k5
    have k4 := hB.bk _ (.tail _ (.head _))
    have c40 := k4.cell 0
    have c41 := k4.cell 1
    clear k4
    have k3 := hB.bk _ (.tail _ (.tail _ (.head _)))
    have c30 := k3.cell 0
    have c31 := k3.cell 1
    clear k3
    have HB2 := Lib.hid hB
    clear hB HB
    have HB := HB2
    clear HB2 HXY HYZ HXZ HK HG1 HG2
    go_wp2_with fail
    refine (HYX.out _).mono ?_
    rintro e w6 ⟨rfl, hb⟩
    have HB2 := Lib.hid (HB.out.call hb)
    clear hb HB HYX
    have HB := HB2
    clear HB2
    clear c50 c51 c40 c41 c30 c31
    have k5 := HB.out.bk _ (List.mem_cons_self ..)
    have c50 := k5.cell 0
    have c51 := k5.cell 1
    clear k5
    have k4 := HB.out.bk _ (.tail _ (.head _))
    have c40 := k4.cell 0
    have c41 := k4.cell 1
    clear k4
    have k3 := HB.out.bk _ (.tail _ (.tail _ (.head _)))
    have c30 := k3.cell 0
    have c31 := k3.cell 1
    clear k3
    go_wp2_with fail
    refine (HP.out _).mono ?_
    rintro e w7 ⟨rfl, hb⟩
    have HB2 := Lib.hid ((HB.out.call hb).alloc 23 #[.int .i64 p, .int .i64 (q : Nat)])
    clear hb HB
    have HB := HB2
    clear HB2
    clear c50 c51 c40 c41 c30 c31
    have k5 := HB.out.bk _ (.tail _ (.head _))
    have c50 := k5.cell 0
    have c51 := k5.cell 1
    clear k5
    have k4 := HB.out.bk _ (.tail _ (.tail _ (.head _)))
    have c40 := k4.cell 0
    have c41 := k4.cell 1
    clear k4
    have k3 := HB.out.bk _ (.tail _ (.tail _ (.tail _ (.head _))))
    have c30 := k3.cell 0
    have c31 := k3.cell 1
    clear k3
    go_wp2_with fail
    refine (HQ.out _).mono ?_
    rintro e w8 ⟨rfl, hb⟩
    have HB2 := Lib.hid ((HB.out.call hb).alloc 23 #[.int .i64 p', .int .i64 (q' : Nat)])
    clear hb HB HP HQ
    have HB := HB2
    clear HB2
    clear c50 c51 c40 c41 c30 c31
    rcases Hhe.out with ⟨rfl | rfl, rfl | rfl⟩
    · have HS := HR.out rfl rfl
      clear HR Hhe
      have k7 := HB.out.bk _ (List.mem_cons_self ..)
      have c70 := k7.cell 0
      have c71 := k7.cell 1
      clear k7
      have k6 := HB.out.bk _ (.tail _ (.head _))
      have c60 := k6.cell 0
      have c61 := k6.cell 1
      clear k6
      go_wp2_with fail
      refine (HS.out _).mono ?_
      rintro e w9 ⟨rfl, hb⟩
      have hbel := (HB.out.call hb).bel
      clear hb HB c70 c71 c60 c61
      go_wp2
      go_ret
      exact ⟨rfl, hbel⟩
    · clear HR Hhe
      have hbel := HB.out.bel
      go_wp2
      go_ret
      exact ⟨rfl, hbel⟩
    · clear HR Hhe
      have hbel := HB.out.bel
      go_wp2
      go_ret
      exact ⟨rfl, hbel⟩
    · clear HR Hhe
      have hbel := HB.out.bel
      go_wp2
      go_ret
      exact ⟨rfl, hbel⟩

set_option maxRecDepth 100000 in
set_option maxHeartbeats 2000000 in
theorem order_2_mn {w : World} {m n k : Int} {s t u : Nat} (hx : Gd m s) (hy : Gd n t) (hz : Gd k u) (hmn : m ≠ n) (hX : cmp (val m s) (val n t) = (-1)) (hX2 : cmp (val n t) (val m s) = 1) (hY : cmp (val n t) (val k u) = 1) :
    Calls Tryd.prog 7 #[.agg #[.int .i64 m, .int .i64 (s : Nat)], .agg #[.int .i64 n, .int .i64 (t : Nat)], .agg #[.int .i64 k, .int .i64 (u : Nat)]] w fun e w' => e = .returned (.bool true) ∧ Below w.heap.size w w' := by
  have HK := Lib.hid (fun W : World => known4_any W)
  have HG1 := Lib.hid (fun W : World => goodT (w := W) hx.ck hy.ck)
  have HG2 := Lib.hid (fun W : World => goodT (w := W) hy.ck hz.ck)
  have HXY : Hid (∀ W : World, Calls Tryd.prog 20 #[.agg #[.int .i64 m, .int .i64 (s : Nat)], .agg #[.int .i64 n, .int .i64 (t : Nat)]] W fun e w' => e = .returned (.int .i64 (-1)) ∧ Below W.heap.size W w') := Lib.hid (fun _ => hX ▸ compare_any hx hy)
  have HYZ : Hid (∀ W : World, Calls Tryd.prog 20 #[.agg #[.int .i64 n, .int .i64 (t : Nat)], .agg #[.int .i64 k, .int .i64 (u : Nat)]] W fun e w' => e = .returned (.int .i64 1) ∧ Below W.heap.size W w') := Lib.hid (fun _ => hY ▸ compare_any hy hz)
  have HXZ : Hid (∀ W : World, Calls Tryd.prog 20 #[.agg #[.int .i64 m, .int .i64 (s : Nat)], .agg #[.int .i64 k, .int .i64 (u : Nat)]] W fun e w' => e = .returned (.int .i64 (cmp (val m s) (val k u))) ∧ Below W.heap.size W w') := Lib.hid (fun _ => compare_any hx hz)
  have HYX : Hid (∀ W : World, Calls Tryd.prog 20 #[.agg #[.int .i64 n, .int .i64 (t : Nat)], .agg #[.int .i64 m, .int .i64 (s : Nat)]] W fun e w' => e = .returned (.int .i64 1) ∧ Below W.heap.size W w') := Lib.hid (fun _ => hX2 ▸ compare_any hy hx)
  have HP : Hid (∀ W : World, Calls Tryd.prog 18 #[.agg #[.int .i64 m, .int .i64 (s : Nat)], .agg #[.int .i64 k, .int .i64 (u : Nat)]] W fun e w' => e = .returned (.tuple #[.agg #[.int .i64 (addD m s k u).m, .int .i64 ((addD m s k u).s : Nat)], .int .i64 ((addD m s k u).e : Nat)]) ∧ Below W.heap.size W w') := Lib.hid (fun _ => dadd_any hx hz)
  have HQ : Hid (∀ W : World, Calls Tryd.prog 18 #[.agg #[.int .i64 n, .int .i64 (t : Nat)], .agg #[.int .i64 k, .int .i64 (u : Nat)]] W fun e w' => e = .returned (.tuple #[.agg #[.int .i64 (addD n t k u).m, .int .i64 ((addD n t k u).s : Nat)], .int .i64 ((addD n t k u).e : Nat)]) ∧ Below W.heap.size W w') := Lib.hid (fun _ => dadd_any hy hz)
  have HR : Hid (((addD m s k u).e : Int) = 0 → ((addD n t k u).e : Int) = 0 → Hid (∀ W : World, Calls Tryd.prog 20 #[.agg #[.int .i64 (addD m s k u).m, .int .i64 ((addD m s k u).s : Nat)], .agg #[.int .i64 (addD n t k u).m, .int .i64 ((addD n t k u).s : Nat)]] W fun e w' => e = .returned (.int .i64 (-1)) ∧ Below W.heap.size W w')) := Lib.hid (fun h1 h2 => Lib.hid (fun W => by
    obtain ⟨g1, v1⟩ := add_ok (m := m) (n := k) (s := s) (t := u) (by omega)
    obtain ⟨g2, v2⟩ := add_ok (m := n) (n := k) (s := t) (t := u) (by omega)
    have := compare_any (w := W) g1 g2
    rw [v1, v2, cmp_add, hX] at this
    exact this))
  have hE1 : ((addD m s k u).e : Int) = 0 ∨ ((addD m s k u).e : Int) = 8 := by
    have := tl_e (val m s + val k u) 9
    unfold addD
    omega
  have hE2 : ((addD n t k u).e : Int) = 0 ∨ ((addD n t k u).e : Int) = 8 := by
    have := tl_e (val n t + val k u) 9
    unfold addD
    omega
  have hne : (m == n) = false := by simpa using hmn
  clear hmn
  clear hX hX2 hY
  generalize cmp (val m s) (val k u) = Z at *
  generalize ((addD m s k u).e : Int) = E1 at *
  generalize (addD m s k u).m = p at *
  generalize (addD m s k u).s = q at *
  generalize ((addD n t k u).e : Int) = E2 at *
  generalize (addD n t k u).m = p' at *
  generalize (addD n t k u).s = q' at *
  have Hhe := Lib.hid (And.intro hE1 hE2)
  clear hE1 hE2 hy hx hz
  have H0 : Hid (SB w 3 [((w.heap.size + 1 + 1), 23, #[.int .i64 k, .int .i64 (u : Nat)]), ((w.heap.size + 1), 23, #[.int .i64 n, .int .i64 (t : Nat)]), (w.heap.size, 23, #[.int .i64 m, .int .i64 (s : Nat)])] (((w.alloc (.cells #[.int .i64 m, .int .i64 (s : Nat)] 23)).alloc (.cells #[.int .i64 n, .int .i64 (t : Nat)] 23)).alloc (.cells #[.int .i64 k, .int .i64 (u : Nat)] 23))) := Lib.hid (((sb1 w 23 _).push (by simp) 23 _).push (by simp) 23 _)
  go_enter Tryd.func7, Tryd.ntmps7
  go_wp2_with fail
  refine (HK.out _).mono ?_
  rintro e w1 ⟨rfl, hb⟩
  have HB := Lib.hid (H0.out.call hb)
  clear hb H0
  have q0 := HB.out.bk _ (.head _)
  have c00 := q0.cell 0
  have c01 := q0.cell 1
  clear q0
  have q1 := HB.out.bk _ (.tail _ (.head _))
  have c10 := q1.cell 0
  have c11 := q1.cell 1
  clear q1
  have q2 := HB.out.bk _ (.tail _ (.tail _ (.head _)))
  have c20 := q2.cell 0
  have c21 := q2.cell 1
  clear q2
  go_wp2_with fail
  refine (HG1.out _).mono ?_
  rintro e w2 ⟨rfl, hb⟩
  clear c00 c01 c10 c11 c20 c21
  have HB2 := Lib.hid (HB.out.call hb)
  clear hb HB
  have HB := HB2
  clear HB2
  have q0 := HB.out.bk _ (.head _)
  have c00 := q0.cell 0
  have c01 := q0.cell 1
  clear q0
  have q1 := HB.out.bk _ (.tail _ (.head _))
  have c10 := q1.cell 0
  have c11 := q1.cell 1
  clear q1
  have q2 := HB.out.bk _ (.tail _ (.tail _ (.head _)))
  have c20 := q2.cell 0
  have c21 := q2.cell 1
  clear q2
  go_wp2_with fail
  refine (HG2.out _).mono ?_
  rintro e w3 ⟨rfl, hb⟩
  clear c00 c01 c10 c11 c20 c21
  have HB3 := Lib.hid (HB.out.call hb)
  clear hb HB
  have HB := HB3
  clear HB3
  go_wp2_with fail
  refine wp_region_phases (S := (S1 w 3 ([((w.heap.size + 1 + 1), 23, #[.int .i64 k, .int .i64 (u : Nat)]), ((w.heap.size + 1), 23, #[.int .i64 n, .int .i64 (t : Nat)]), (w.heap.size, 23, #[.int .i64 m, .int .i64 (s : Nat)])] : List (Nat × TypeId × Array Value)) ([((w.heap.size + 1 + 1), 23, #[.int .i64 k, .int .i64 (u : Nat)]), ((w.heap.size + 1), 23, #[.int .i64 n, .int .i64 (t : Nat)]), (w.heap.size, 23, #[.int .i64 m, .int .i64 (s : Nat)])] : List (Nat × TypeId × Array Value)))) (E := (fun _ _ => True)) [] [(3, Is (.pointer (some ⟨w.heap.size, 0, none⟩))), (4, Is (.pointer (some ⟨(w.heap.size + 1), 0, none⟩))), (5, Is (.pointer (some ⟨(w.heap.size + 1 + 1), 0, none⟩)))] [(26, Is (.agg #[.int .i64 m, .int .i64 (s : Nat)])), (27, Is (.agg #[.int .i64 n, .int .i64 (t : Nat)])), (28, Is (.int .i64 (-1))), (29, Is (.agg #[.int .i64 n, .int .i64 (t : Nat)])), (30, Is (.agg #[.int .i64 k, .int .i64 (u : Nat)])), (31, Is (.int .i64 1)), (32, Is (.agg #[.int .i64 m, .int .i64 (s : Nat)])), (33, Is (.agg #[.int .i64 k, .int .i64 (u : Nat)])), (34, Is (.int .i64 Z)), (7, Is (.int .i64 (-1))), (8, Is (.int .i64 1)), (9, Is (.int .i64 Z))]
    [.op [3] none, .op [4] none, .op [26, 27] none, .op [4] none, .op [5] none, .op [29, 30] none, .op [3] none, .op [5] none, .op [32, 33] none, .op [28] none, .op [31] none, .op [34] none] (by as_aux_lemma => kernel_rfl) ?_ ?_ ?_ ?_ ?_ ⟨stable_is _ _, stable_is _ _, stable_is _ _, stable_is _ _, stable_is _ _, stable_is _ _, stable_is _ _, stable_is _ _, stable_is _ _, stable_is _ _, stable_is _ _, stable_is _ _, stable_is _ _, stable_is _ _, stable_is _ _, trivial⟩ ?_ (HB.out.drew) ?_ ?_
  · as_aux_lemma => kernel_rfl
  · as_aux_lemma => kernel_rfl
  · as_aux_lemma => kernel_rfl
  · as_aux_lemma => kernel_rfl
  · as_aux_lemma => kernel_rfl
  · exact ⟨rfl, rfl, rfl, trivial⟩
  · refine ⟨?_, ?_, ?_, ?_, ?_, ?_, ?_, ?_, ?_, ?_, ?_, ?_, trivial⟩
    · as_aux_lemma =>
        intro vals a W hS hL
        have e3 : a.tmps.getD 3 undef = .pointer (some ⟨w.heap.size, 0, none⟩) := hL.1
        clear hL
        have kb : Bk W w.heap.size 23 #[.int .i64 m, .int .i64 (s : Nat)] := hS.bk (.tail _ (.tail _ (.head _))) (.tail _ (.tail _ (.head _)))
        have f0 := kb.cell 0
        have f1 := kb.cell 1
        clear kb
        go_simp
        exact ⟨⟨fun d hd => by injection hd with hd; subst hd; rfl, fun h => by cases h⟩, hS, trivial⟩
    · as_aux_lemma =>
        intro vals a W hS hL
        have e4 : a.tmps.getD 4 undef = .pointer (some ⟨(w.heap.size + 1), 0, none⟩) := hL.1
        clear hL
        have kb : Bk W (w.heap.size + 1) 23 #[.int .i64 n, .int .i64 (t : Nat)] := hS.bk (.tail _ (.head _)) (.tail _ (.head _))
        have f0 := kb.cell 0
        have f1 := kb.cell 1
        clear kb
        go_simp
        exact ⟨⟨fun d hd => by injection hd with hd; subst hd; rfl, fun h => by cases h⟩, hS, trivial⟩
    · as_aux_lemma =>
        intro vals a W hS hL
        have e26 : a.tmps.getD 26 undef = .agg #[.int .i64 m, .int .i64 (s : Nat)] := hL.1
        have e27 : a.tmps.getD 27 undef = .agg #[.int .i64 n, .int .i64 (t : Nat)] := hL.2.1
        clear hL
        go_simp
        refine (HXY.out W).mono ?_
        rintro e W' ⟨rfl, hb⟩
        exact ⟨_, rfl, ⟨fun d hd => by injection hd with hd; subst hd; rfl, fun h => by cases h⟩, hS.call hb, trivial⟩
    · as_aux_lemma =>
        intro vals a W hS hL
        have e4 : a.tmps.getD 4 undef = .pointer (some ⟨(w.heap.size + 1), 0, none⟩) := hL.1
        clear hL
        have kb : Bk W (w.heap.size + 1) 23 #[.int .i64 n, .int .i64 (t : Nat)] := hS.bk (.tail _ (.head _)) (.tail _ (.head _))
        have f0 := kb.cell 0
        have f1 := kb.cell 1
        clear kb
        go_simp
        exact ⟨⟨fun d hd => by injection hd with hd; subst hd; rfl, fun h => by cases h⟩, hS, trivial⟩
    · as_aux_lemma =>
        intro vals a W hS hL
        have e5 : a.tmps.getD 5 undef = .pointer (some ⟨(w.heap.size + 1 + 1), 0, none⟩) := hL.1
        clear hL
        have kb : Bk W (w.heap.size + 1 + 1) 23 #[.int .i64 k, .int .i64 (u : Nat)] := hS.bk (.head _) (.head _)
        have f0 := kb.cell 0
        have f1 := kb.cell 1
        clear kb
        go_simp
        exact ⟨⟨fun d hd => by injection hd with hd; subst hd; rfl, fun h => by cases h⟩, hS, trivial⟩
    · as_aux_lemma =>
        intro vals a W hS hL
        have e29 : a.tmps.getD 29 undef = .agg #[.int .i64 n, .int .i64 (t : Nat)] := hL.1
        have e30 : a.tmps.getD 30 undef = .agg #[.int .i64 k, .int .i64 (u : Nat)] := hL.2.1
        clear hL
        go_simp
        refine (HYZ.out W).mono ?_
        rintro e W' ⟨rfl, hb⟩
        exact ⟨_, rfl, ⟨fun d hd => by injection hd with hd; subst hd; rfl, fun h => by cases h⟩, hS.call hb, trivial⟩
    · as_aux_lemma =>
        intro vals a W hS hL
        have e3 : a.tmps.getD 3 undef = .pointer (some ⟨w.heap.size, 0, none⟩) := hL.1
        clear hL
        have kb : Bk W w.heap.size 23 #[.int .i64 m, .int .i64 (s : Nat)] := hS.bk (.tail _ (.tail _ (.head _))) (.tail _ (.tail _ (.head _)))
        have f0 := kb.cell 0
        have f1 := kb.cell 1
        clear kb
        go_simp
        exact ⟨⟨fun d hd => by injection hd with hd; subst hd; rfl, fun h => by cases h⟩, hS, trivial⟩
    · as_aux_lemma =>
        intro vals a W hS hL
        have e5 : a.tmps.getD 5 undef = .pointer (some ⟨(w.heap.size + 1 + 1), 0, none⟩) := hL.1
        clear hL
        have kb : Bk W (w.heap.size + 1 + 1) 23 #[.int .i64 k, .int .i64 (u : Nat)] := hS.bk (.head _) (.head _)
        have f0 := kb.cell 0
        have f1 := kb.cell 1
        clear kb
        go_simp
        exact ⟨⟨fun d hd => by injection hd with hd; subst hd; rfl, fun h => by cases h⟩, hS, trivial⟩
    · as_aux_lemma =>
        intro vals a W hS hL
        have e32 : a.tmps.getD 32 undef = .agg #[.int .i64 m, .int .i64 (s : Nat)] := hL.1
        have e33 : a.tmps.getD 33 undef = .agg #[.int .i64 k, .int .i64 (u : Nat)] := hL.2.1
        clear hL
        go_simp
        refine (HXZ.out W).mono ?_
        rintro e W' ⟨rfl, hb⟩
        exact ⟨_, rfl, ⟨fun d hd => by injection hd with hd; subst hd; rfl, fun h => by cases h⟩, hS.call hb, trivial⟩
    · as_aux_lemma =>
        intro vals a W hS hL
        have e28 : a.tmps.getD 28 undef = .int .i64 (-1) := hL.1
        clear hL
        go_simp
        exact ⟨⟨fun d hd => by injection hd with hd; subst hd; rfl, fun h => by cases h⟩, hS, trivial⟩
    · as_aux_lemma =>
        intro vals a W hS hL
        have e31 : a.tmps.getD 31 undef = .int .i64 1 := hL.1
        clear hL
        go_simp
        exact ⟨⟨fun d hd => by injection hd with hd; subst hd; rfl, fun h => by cases h⟩, hS, trivial⟩
    · as_aux_lemma =>
        intro vals a W hS hL
        have e34 : a.tmps.getD 34 undef = .int .i64 Z := hL.1
        clear hL
        go_simp
        exact ⟨⟨fun d hd => by injection hd with hd; subst hd; rfl, fun h => by cases h⟩, hS, trivial⟩
  · intro a W' vals hd hsz hT hF hv hP hS
    obtain rfl : vals = [] := List.eq_nil_of_length_eq_zero hv
    have hB : SB w 3 ([((w.heap.size + 1 + 1), 23, #[.int .i64 k, .int .i64 (u : Nat)]), ((w.heap.size + 1), 23, #[.int .i64 n, .int .i64 (t : Nat)]), (w.heap.size, 23, #[.int .i64 m, .int .i64 (s : Nat)])] : List (Nat × TypeId × Array Value)) W' := hS
    clear hS
    have e3 : a.tmps.getD 3 undef = .pointer (some ⟨w.heap.size, 0, none⟩) := hT 3 (by simp)
    have e4 : a.tmps.getD 4 undef = .pointer (some ⟨(w.heap.size + 1), 0, none⟩) := hT 4 (by simp)
    have e5 : a.tmps.getD 5 undef = .pointer (some ⟨(w.heap.size + 1 + 1), 0, none⟩) := hT 5 (by simp)
    have e7 : a.tmps.getD 7 undef = .int .i64 (-1) := hT 7 (by simp)
    have e8 : a.tmps.getD 8 undef = .int .i64 1 := hT 8 (by simp)
    have e9 : a.tmps.getD 9 undef = .int .i64 Z := hT 9 (by simp)
    clear hT hF hP
    rw [act_lit 98 a hd hsz]
    simp only [List.range, List.range.loop, List.map, e3, e4, e5, e7, e8, e9]
    clear e3 e4 e5 e7 e8 e9
    have k5 := hB.bk _ (List.mem_cons_self ..)
    have c50 := k5.cell 0
    have c51 := k5.cell 1
    clear k5
    have k4 := hB.bk _ (.tail _ (.head _))
    have c40 := k4.cell 0
    have c41 := k4.cell 1
    clear k4
    have k3 := hB.bk _ (.tail _ (.tail _ (.head _)))
    have c30 := k3.cell 0
    have c31 := k3.cell 1
    clear k3
    have HB2 := Lib.hid hB
    clear hB HB
    have HB := HB2
    clear HB2 HXY HYZ HXZ HK HG1 HG2
    go_wp2_with fail
    refine (HYX.out _).mono ?_
    rintro e w6 ⟨rfl, hb⟩
    have HB2 := Lib.hid (HB.out.call hb)
    clear hb HB HYX
    have HB := HB2
    clear HB2
    clear c50 c51 c40 c41 c30 c31
    have k5 := HB.out.bk _ (List.mem_cons_self ..)
    have c50 := k5.cell 0
    have c51 := k5.cell 1
    clear k5
    have k4 := HB.out.bk _ (.tail _ (.head _))
    have c40 := k4.cell 0
    have c41 := k4.cell 1
    clear k4
    have k3 := HB.out.bk _ (.tail _ (.tail _ (.head _)))
    have c30 := k3.cell 0
    have c31 := k3.cell 1
    clear k3
    go_wp2_with fail
    refine (HP.out _).mono ?_
    rintro e w7 ⟨rfl, hb⟩
    have HB2 := Lib.hid ((HB.out.call hb).alloc 23 #[.int .i64 p, .int .i64 (q : Nat)])
    clear hb HB
    have HB := HB2
    clear HB2
    clear c50 c51 c40 c41 c30 c31
    have k5 := HB.out.bk _ (.tail _ (.head _))
    have c50 := k5.cell 0
    have c51 := k5.cell 1
    clear k5
    have k4 := HB.out.bk _ (.tail _ (.tail _ (.head _)))
    have c40 := k4.cell 0
    have c41 := k4.cell 1
    clear k4
    have k3 := HB.out.bk _ (.tail _ (.tail _ (.tail _ (.head _))))
    have c30 := k3.cell 0
    have c31 := k3.cell 1
    clear k3
    go_wp2_with fail
    refine (HQ.out _).mono ?_
    rintro e w8 ⟨rfl, hb⟩
    have HB2 := Lib.hid ((HB.out.call hb).alloc 23 #[.int .i64 p', .int .i64 (q' : Nat)])
    clear hb HB HP HQ
    have HB := HB2
    clear HB2
    clear c50 c51 c40 c41 c30 c31
    rcases Hhe.out with ⟨rfl | rfl, rfl | rfl⟩
    · have HS := HR.out rfl rfl
      clear HR Hhe
      have k7 := HB.out.bk _ (List.mem_cons_self ..)
      have c70 := k7.cell 0
      have c71 := k7.cell 1
      clear k7
      have k6 := HB.out.bk _ (.tail _ (.head _))
      have c60 := k6.cell 0
      have c61 := k6.cell 1
      clear k6
      go_wp2_with fail
      refine (HS.out _).mono ?_
      rintro e w9 ⟨rfl, hb⟩
      have hbel := (HB.out.call hb).bel
      clear hb HB c70 c71 c60 c61
      go_wp2
      go_ret
      exact ⟨rfl, hbel⟩
    · clear HR Hhe
      have hbel := HB.out.bel
      go_wp2
      go_ret
      exact ⟨rfl, hbel⟩
    · clear HR Hhe
      have hbel := HB.out.bel
      go_wp2
      go_ret
      exact ⟨rfl, hbel⟩
    · clear HR Hhe
      have hbel := HB.out.bel
      go_wp2
      go_ret
      exact ⟨rfl, hbel⟩

set_option maxRecDepth 100000 in
set_option maxHeartbeats 2000000 in
theorem order_6_st {w : World} {m k : Int} {s t u : Nat} (hx : Gd m s) (hy : Gd m t) (hz : Gd k u) (hst : s ≠ t) (hX : cmp (val m s) (val m t) = 1) (hX2 : cmp (val m t) (val m s) = (-1)) (hY : cmp (val m t) (val k u) = (-1)) :
    Calls Tryd.prog 7 #[.agg #[.int .i64 m, .int .i64 (s : Nat)], .agg #[.int .i64 m, .int .i64 (t : Nat)], .agg #[.int .i64 k, .int .i64 (u : Nat)]] w fun e w' => e = .returned (.bool true) ∧ Below w.heap.size w w' := by
  have HK := Lib.hid (fun W : World => known4_any W)
  have HG1 := Lib.hid (fun W : World => goodT (w := W) hx.ck hy.ck)
  have HG2 := Lib.hid (fun W : World => goodT (w := W) hy.ck hz.ck)
  have HXY : Hid (∀ W : World, Calls Tryd.prog 20 #[.agg #[.int .i64 m, .int .i64 (s : Nat)], .agg #[.int .i64 m, .int .i64 (t : Nat)]] W fun e w' => e = .returned (.int .i64 1) ∧ Below W.heap.size W w') := Lib.hid (fun _ => hX ▸ compare_any hx hy)
  have HYZ : Hid (∀ W : World, Calls Tryd.prog 20 #[.agg #[.int .i64 m, .int .i64 (t : Nat)], .agg #[.int .i64 k, .int .i64 (u : Nat)]] W fun e w' => e = .returned (.int .i64 (-1)) ∧ Below W.heap.size W w') := Lib.hid (fun _ => hY ▸ compare_any hy hz)
  have HXZ : Hid (∀ W : World, Calls Tryd.prog 20 #[.agg #[.int .i64 m, .int .i64 (s : Nat)], .agg #[.int .i64 k, .int .i64 (u : Nat)]] W fun e w' => e = .returned (.int .i64 (cmp (val m s) (val k u))) ∧ Below W.heap.size W w') := Lib.hid (fun _ => compare_any hx hz)
  have HYX : Hid (∀ W : World, Calls Tryd.prog 20 #[.agg #[.int .i64 m, .int .i64 (t : Nat)], .agg #[.int .i64 m, .int .i64 (s : Nat)]] W fun e w' => e = .returned (.int .i64 (-1)) ∧ Below W.heap.size W w') := Lib.hid (fun _ => hX2 ▸ compare_any hy hx)
  have HP : Hid (∀ W : World, Calls Tryd.prog 18 #[.agg #[.int .i64 m, .int .i64 (s : Nat)], .agg #[.int .i64 k, .int .i64 (u : Nat)]] W fun e w' => e = .returned (.tuple #[.agg #[.int .i64 (addD m s k u).m, .int .i64 ((addD m s k u).s : Nat)], .int .i64 ((addD m s k u).e : Nat)]) ∧ Below W.heap.size W w') := Lib.hid (fun _ => dadd_any hx hz)
  have HQ : Hid (∀ W : World, Calls Tryd.prog 18 #[.agg #[.int .i64 m, .int .i64 (t : Nat)], .agg #[.int .i64 k, .int .i64 (u : Nat)]] W fun e w' => e = .returned (.tuple #[.agg #[.int .i64 (addD m t k u).m, .int .i64 ((addD m t k u).s : Nat)], .int .i64 ((addD m t k u).e : Nat)]) ∧ Below W.heap.size W w') := Lib.hid (fun _ => dadd_any hy hz)
  have HR : Hid (((addD m s k u).e : Int) = 0 → ((addD m t k u).e : Int) = 0 → Hid (∀ W : World, Calls Tryd.prog 20 #[.agg #[.int .i64 (addD m s k u).m, .int .i64 ((addD m s k u).s : Nat)], .agg #[.int .i64 (addD m t k u).m, .int .i64 ((addD m t k u).s : Nat)]] W fun e w' => e = .returned (.int .i64 1) ∧ Below W.heap.size W w')) := Lib.hid (fun h1 h2 => Lib.hid (fun W => by
    obtain ⟨g1, v1⟩ := add_ok (m := m) (n := k) (s := s) (t := u) (by omega)
    obtain ⟨g2, v2⟩ := add_ok (m := m) (n := k) (s := t) (t := u) (by omega)
    have := compare_any (w := W) g1 g2
    rw [v1, v2, cmp_add, hX] at this
    exact this))
  have hE1 : ((addD m s k u).e : Int) = 0 ∨ ((addD m s k u).e : Int) = 8 := by
    have := tl_e (val m s + val k u) 9
    unfold addD
    omega
  have hE2 : ((addD m t k u).e : Int) = 0 ∨ ((addD m t k u).e : Int) = 8 := by
    have := tl_e (val m t + val k u) 9
    unfold addD
    omega
  have hne : ((s : Int) == (t : Int)) = false := by simp; omega
  clear hst
  clear hX hX2 hY
  generalize cmp (val m s) (val k u) = Z at *
  generalize ((addD m s k u).e : Int) = E1 at *
  generalize (addD m s k u).m = p at *
  generalize (addD m s k u).s = q at *
  generalize ((addD m t k u).e : Int) = E2 at *
  generalize (addD m t k u).m = p' at *
  generalize (addD m t k u).s = q' at *
  have Hhe := Lib.hid (And.intro hE1 hE2)
  clear hE1 hE2 hy hx hz
  have H0 : Hid (SB w 3 [((w.heap.size + 1 + 1), 23, #[.int .i64 k, .int .i64 (u : Nat)]), ((w.heap.size + 1), 23, #[.int .i64 m, .int .i64 (t : Nat)]), (w.heap.size, 23, #[.int .i64 m, .int .i64 (s : Nat)])] (((w.alloc (.cells #[.int .i64 m, .int .i64 (s : Nat)] 23)).alloc (.cells #[.int .i64 m, .int .i64 (t : Nat)] 23)).alloc (.cells #[.int .i64 k, .int .i64 (u : Nat)] 23))) := Lib.hid (((sb1 w 23 _).push (by simp) 23 _).push (by simp) 23 _)
  go_enter Tryd.func7, Tryd.ntmps7
  go_wp2_with fail
  refine (HK.out _).mono ?_
  rintro e w1 ⟨rfl, hb⟩
  have HB := Lib.hid (H0.out.call hb)
  clear hb H0
  have q0 := HB.out.bk _ (.head _)
  have c00 := q0.cell 0
  have c01 := q0.cell 1
  clear q0
  have q1 := HB.out.bk _ (.tail _ (.head _))
  have c10 := q1.cell 0
  have c11 := q1.cell 1
  clear q1
  have q2 := HB.out.bk _ (.tail _ (.tail _ (.head _)))
  have c20 := q2.cell 0
  have c21 := q2.cell 1
  clear q2
  go_wp2_with fail
  refine (HG1.out _).mono ?_
  rintro e w2 ⟨rfl, hb⟩
  clear c00 c01 c10 c11 c20 c21
  have HB2 := Lib.hid (HB.out.call hb)
  clear hb HB
  have HB := HB2
  clear HB2
  have q0 := HB.out.bk _ (.head _)
  have c00 := q0.cell 0
  have c01 := q0.cell 1
  clear q0
  have q1 := HB.out.bk _ (.tail _ (.head _))
  have c10 := q1.cell 0
  have c11 := q1.cell 1
  clear q1
  have q2 := HB.out.bk _ (.tail _ (.tail _ (.head _)))
  have c20 := q2.cell 0
  have c21 := q2.cell 1
  clear q2
  go_wp2_with fail
  refine (HG2.out _).mono ?_
  rintro e w3 ⟨rfl, hb⟩
  clear c00 c01 c10 c11 c20 c21
  have HB3 := Lib.hid (HB.out.call hb)
  clear hb HB
  have HB := HB3
  clear HB3
  go_wp2_with fail
  refine wp_region_phases (S := (S1 w 3 ([((w.heap.size + 1 + 1), 23, #[.int .i64 k, .int .i64 (u : Nat)]), ((w.heap.size + 1), 23, #[.int .i64 m, .int .i64 (t : Nat)]), (w.heap.size, 23, #[.int .i64 m, .int .i64 (s : Nat)])] : List (Nat × TypeId × Array Value)) ([((w.heap.size + 1 + 1), 23, #[.int .i64 k, .int .i64 (u : Nat)]), ((w.heap.size + 1), 23, #[.int .i64 m, .int .i64 (t : Nat)]), (w.heap.size, 23, #[.int .i64 m, .int .i64 (s : Nat)])] : List (Nat × TypeId × Array Value)))) (E := (fun _ _ => True)) [] [(3, Is (.pointer (some ⟨w.heap.size, 0, none⟩))), (4, Is (.pointer (some ⟨(w.heap.size + 1), 0, none⟩))), (5, Is (.pointer (some ⟨(w.heap.size + 1 + 1), 0, none⟩)))] [(26, Is (.agg #[.int .i64 m, .int .i64 (s : Nat)])), (27, Is (.agg #[.int .i64 m, .int .i64 (t : Nat)])), (28, Is (.int .i64 1)), (29, Is (.agg #[.int .i64 m, .int .i64 (t : Nat)])), (30, Is (.agg #[.int .i64 k, .int .i64 (u : Nat)])), (31, Is (.int .i64 (-1))), (32, Is (.agg #[.int .i64 m, .int .i64 (s : Nat)])), (33, Is (.agg #[.int .i64 k, .int .i64 (u : Nat)])), (34, Is (.int .i64 Z)), (7, Is (.int .i64 1)), (8, Is (.int .i64 (-1))), (9, Is (.int .i64 Z))]
    [.op [3] none, .op [4] none, .op [26, 27] none, .op [4] none, .op [5] none, .op [29, 30] none, .op [3] none, .op [5] none, .op [32, 33] none, .op [28] none, .op [31] none, .op [34] none] (by as_aux_lemma => kernel_rfl) ?_ ?_ ?_ ?_ ?_ ⟨stable_is _ _, stable_is _ _, stable_is _ _, stable_is _ _, stable_is _ _, stable_is _ _, stable_is _ _, stable_is _ _, stable_is _ _, stable_is _ _, stable_is _ _, stable_is _ _, stable_is _ _, stable_is _ _, stable_is _ _, trivial⟩ ?_ (HB.out.drew) ?_ ?_
  · as_aux_lemma => kernel_rfl
  · as_aux_lemma => kernel_rfl
  · as_aux_lemma => kernel_rfl
  · as_aux_lemma => kernel_rfl
  · as_aux_lemma => kernel_rfl
  · exact ⟨rfl, rfl, rfl, trivial⟩
  · refine ⟨?_, ?_, ?_, ?_, ?_, ?_, ?_, ?_, ?_, ?_, ?_, ?_, trivial⟩
    · as_aux_lemma =>
        intro vals a W hS hL
        have e3 : a.tmps.getD 3 undef = .pointer (some ⟨w.heap.size, 0, none⟩) := hL.1
        clear hL
        have kb : Bk W w.heap.size 23 #[.int .i64 m, .int .i64 (s : Nat)] := hS.bk (.tail _ (.tail _ (.head _))) (.tail _ (.tail _ (.head _)))
        have f0 := kb.cell 0
        have f1 := kb.cell 1
        clear kb
        go_simp
        exact ⟨⟨fun d hd => by injection hd with hd; subst hd; rfl, fun h => by cases h⟩, hS, trivial⟩
    · as_aux_lemma =>
        intro vals a W hS hL
        have e4 : a.tmps.getD 4 undef = .pointer (some ⟨(w.heap.size + 1), 0, none⟩) := hL.1
        clear hL
        have kb : Bk W (w.heap.size + 1) 23 #[.int .i64 m, .int .i64 (t : Nat)] := hS.bk (.tail _ (.head _)) (.tail _ (.head _))
        have f0 := kb.cell 0
        have f1 := kb.cell 1
        clear kb
        go_simp
        exact ⟨⟨fun d hd => by injection hd with hd; subst hd; rfl, fun h => by cases h⟩, hS, trivial⟩
    · as_aux_lemma =>
        intro vals a W hS hL
        have e26 : a.tmps.getD 26 undef = .agg #[.int .i64 m, .int .i64 (s : Nat)] := hL.1
        have e27 : a.tmps.getD 27 undef = .agg #[.int .i64 m, .int .i64 (t : Nat)] := hL.2.1
        clear hL
        go_simp
        refine (HXY.out W).mono ?_
        rintro e W' ⟨rfl, hb⟩
        exact ⟨_, rfl, ⟨fun d hd => by injection hd with hd; subst hd; rfl, fun h => by cases h⟩, hS.call hb, trivial⟩
    · as_aux_lemma =>
        intro vals a W hS hL
        have e4 : a.tmps.getD 4 undef = .pointer (some ⟨(w.heap.size + 1), 0, none⟩) := hL.1
        clear hL
        have kb : Bk W (w.heap.size + 1) 23 #[.int .i64 m, .int .i64 (t : Nat)] := hS.bk (.tail _ (.head _)) (.tail _ (.head _))
        have f0 := kb.cell 0
        have f1 := kb.cell 1
        clear kb
        go_simp
        exact ⟨⟨fun d hd => by injection hd with hd; subst hd; rfl, fun h => by cases h⟩, hS, trivial⟩
    · as_aux_lemma =>
        intro vals a W hS hL
        have e5 : a.tmps.getD 5 undef = .pointer (some ⟨(w.heap.size + 1 + 1), 0, none⟩) := hL.1
        clear hL
        have kb : Bk W (w.heap.size + 1 + 1) 23 #[.int .i64 k, .int .i64 (u : Nat)] := hS.bk (.head _) (.head _)
        have f0 := kb.cell 0
        have f1 := kb.cell 1
        clear kb
        go_simp
        exact ⟨⟨fun d hd => by injection hd with hd; subst hd; rfl, fun h => by cases h⟩, hS, trivial⟩
    · as_aux_lemma =>
        intro vals a W hS hL
        have e29 : a.tmps.getD 29 undef = .agg #[.int .i64 m, .int .i64 (t : Nat)] := hL.1
        have e30 : a.tmps.getD 30 undef = .agg #[.int .i64 k, .int .i64 (u : Nat)] := hL.2.1
        clear hL
        go_simp
        refine (HYZ.out W).mono ?_
        rintro e W' ⟨rfl, hb⟩
        exact ⟨_, rfl, ⟨fun d hd => by injection hd with hd; subst hd; rfl, fun h => by cases h⟩, hS.call hb, trivial⟩
    · as_aux_lemma =>
        intro vals a W hS hL
        have e3 : a.tmps.getD 3 undef = .pointer (some ⟨w.heap.size, 0, none⟩) := hL.1
        clear hL
        have kb : Bk W w.heap.size 23 #[.int .i64 m, .int .i64 (s : Nat)] := hS.bk (.tail _ (.tail _ (.head _))) (.tail _ (.tail _ (.head _)))
        have f0 := kb.cell 0
        have f1 := kb.cell 1
        clear kb
        go_simp
        exact ⟨⟨fun d hd => by injection hd with hd; subst hd; rfl, fun h => by cases h⟩, hS, trivial⟩
    · as_aux_lemma =>
        intro vals a W hS hL
        have e5 : a.tmps.getD 5 undef = .pointer (some ⟨(w.heap.size + 1 + 1), 0, none⟩) := hL.1
        clear hL
        have kb : Bk W (w.heap.size + 1 + 1) 23 #[.int .i64 k, .int .i64 (u : Nat)] := hS.bk (.head _) (.head _)
        have f0 := kb.cell 0
        have f1 := kb.cell 1
        clear kb
        go_simp
        exact ⟨⟨fun d hd => by injection hd with hd; subst hd; rfl, fun h => by cases h⟩, hS, trivial⟩
    · as_aux_lemma =>
        intro vals a W hS hL
        have e32 : a.tmps.getD 32 undef = .agg #[.int .i64 m, .int .i64 (s : Nat)] := hL.1
        have e33 : a.tmps.getD 33 undef = .agg #[.int .i64 k, .int .i64 (u : Nat)] := hL.2.1
        clear hL
        go_simp
        refine (HXZ.out W).mono ?_
        rintro e W' ⟨rfl, hb⟩
        exact ⟨_, rfl, ⟨fun d hd => by injection hd with hd; subst hd; rfl, fun h => by cases h⟩, hS.call hb, trivial⟩
    · as_aux_lemma =>
        intro vals a W hS hL
        have e28 : a.tmps.getD 28 undef = .int .i64 1 := hL.1
        clear hL
        go_simp
        exact ⟨⟨fun d hd => by injection hd with hd; subst hd; rfl, fun h => by cases h⟩, hS, trivial⟩
    · as_aux_lemma =>
        intro vals a W hS hL
        have e31 : a.tmps.getD 31 undef = .int .i64 (-1) := hL.1
        clear hL
        go_simp
        exact ⟨⟨fun d hd => by injection hd with hd; subst hd; rfl, fun h => by cases h⟩, hS, trivial⟩
    · as_aux_lemma =>
        intro vals a W hS hL
        have e34 : a.tmps.getD 34 undef = .int .i64 Z := hL.1
        clear hL
        go_simp
        exact ⟨⟨fun d hd => by injection hd with hd; subst hd; rfl, fun h => by cases h⟩, hS, trivial⟩
  · intro a W' vals hd hsz hT hF hv hP hS
    obtain rfl : vals = [] := List.eq_nil_of_length_eq_zero hv
    have hB : SB w 3 ([((w.heap.size + 1 + 1), 23, #[.int .i64 k, .int .i64 (u : Nat)]), ((w.heap.size + 1), 23, #[.int .i64 m, .int .i64 (t : Nat)]), (w.heap.size, 23, #[.int .i64 m, .int .i64 (s : Nat)])] : List (Nat × TypeId × Array Value)) W' := hS
    clear hS
    have e3 : a.tmps.getD 3 undef = .pointer (some ⟨w.heap.size, 0, none⟩) := hT 3 (by simp)
    have e4 : a.tmps.getD 4 undef = .pointer (some ⟨(w.heap.size + 1), 0, none⟩) := hT 4 (by simp)
    have e5 : a.tmps.getD 5 undef = .pointer (some ⟨(w.heap.size + 1 + 1), 0, none⟩) := hT 5 (by simp)
    have e7 : a.tmps.getD 7 undef = .int .i64 1 := hT 7 (by simp)
    have e8 : a.tmps.getD 8 undef = .int .i64 (-1) := hT 8 (by simp)
    have e9 : a.tmps.getD 9 undef = .int .i64 Z := hT 9 (by simp)
    clear hT hF hP
    rw [act_lit 98 a hd hsz]
    simp only [List.range, List.range.loop, List.map, e3, e4, e5, e7, e8, e9]
    clear e3 e4 e5 e7 e8 e9
    have k5 := hB.bk _ (List.mem_cons_self ..)
    have c50 := k5.cell 0
    have c51 := k5.cell 1
    clear k5
    have k4 := hB.bk _ (.tail _ (.head _))
    have c40 := k4.cell 0
    have c41 := k4.cell 1
    clear k4
    have k3 := hB.bk _ (.tail _ (.tail _ (.head _)))
    have c30 := k3.cell 0
    have c31 := k3.cell 1
    clear k3
    have HB2 := Lib.hid hB
    clear hB HB
    have HB := HB2
    clear HB2 HXY HYZ HXZ HK HG1 HG2
    go_wp2_with fail
    refine (HYX.out _).mono ?_
    rintro e w6 ⟨rfl, hb⟩
    have HB2 := Lib.hid (HB.out.call hb)
    clear hb HB HYX
    have HB := HB2
    clear HB2
    clear c50 c51 c40 c41 c30 c31
    have k5 := HB.out.bk _ (List.mem_cons_self ..)
    have c50 := k5.cell 0
    have c51 := k5.cell 1
    clear k5
    have k4 := HB.out.bk _ (.tail _ (.head _))
    have c40 := k4.cell 0
    have c41 := k4.cell 1
    clear k4
    have k3 := HB.out.bk _ (.tail _ (.tail _ (.head _)))
    have c30 := k3.cell 0
    have c31 := k3.cell 1
    clear k3
    go_wp2_with fail
    refine (HP.out _).mono ?_
    rintro e w7 ⟨rfl, hb⟩
    have HB2 := Lib.hid ((HB.out.call hb).alloc 23 #[.int .i64 p, .int .i64 (q : Nat)])
    clear hb HB
    have HB := HB2
    clear HB2
    clear c50 c51 c40 c41 c30 c31
    have k5 := HB.out.bk _ (.tail _ (.head _))
    have c50 := k5.cell 0
    have c51 := k5.cell 1
    clear k5
    have k4 := HB.out.bk _ (.tail _ (.tail _ (.head _)))
    have c40 := k4.cell 0
    have c41 := k4.cell 1
    clear k4
    have k3 := HB.out.bk _ (.tail _ (.tail _ (.tail _ (.head _))))
    have c30 := k3.cell 0
    have c31 := k3.cell 1
    clear k3
    go_wp2_with fail
    refine (HQ.out _).mono ?_
    rintro e w8 ⟨rfl, hb⟩
    have HB2 := Lib.hid ((HB.out.call hb).alloc 23 #[.int .i64 p', .int .i64 (q' : Nat)])
    clear hb HB HP HQ
    have HB := HB2
    clear HB2
    clear c50 c51 c40 c41 c30 c31
    rcases Hhe.out with ⟨rfl | rfl, rfl | rfl⟩
    · have HS := HR.out rfl rfl
      clear HR Hhe
      have k7 := HB.out.bk _ (List.mem_cons_self ..)
      have c70 := k7.cell 0
      have c71 := k7.cell 1
      clear k7
      have k6 := HB.out.bk _ (.tail _ (.head _))
      have c60 := k6.cell 0
      have c61 := k6.cell 1
      clear k6
      go_wp2_with fail
      refine (HS.out _).mono ?_
      rintro e w9 ⟨rfl, hb⟩
      have hbel := (HB.out.call hb).bel
      clear hb HB c70 c71 c60 c61
      go_wp2
      go_ret
      exact ⟨rfl, hbel⟩
    · clear HR Hhe
      have hbel := HB.out.bel
      go_wp2
      go_ret
      exact ⟨rfl, hbel⟩
    · clear HR Hhe
      have hbel := HB.out.bel
      go_wp2
      go_ret
      exact ⟨rfl, hbel⟩
    · clear HR Hhe
      have hbel := HB.out.bel
      go_wp2
      go_ret
      exact ⟨rfl, hbel⟩

set_option maxRecDepth 100000 in
set_option maxHeartbeats 2000000 in
theorem order_8_st {w : World} {m k : Int} {s t u : Nat} (hx : Gd m s) (hy : Gd m t) (hz : Gd k u) (hst : s ≠ t) (hX : cmp (val m s) (val m t) = 1) (hX2 : cmp (val m t) (val m s) = (-1)) (hY : cmp (val m t) (val k u) = 1) (hZ : cmp (val m s) (val k u) = 1) :
    Calls Tryd.prog 7 #[.agg #[.int .i64 m, .int .i64 (s : Nat)], .agg #[.int .i64 m, .int .i64 (t : Nat)], .agg #[.int .i64 k, .int .i64 (u : Nat)]] w fun e w' => e = .returned (.bool true) ∧ Below w.heap.size w w' := by
  have HK := Lib.hid (fun W : World => known4_any W)
  have HG1 := Lib.hid (fun W : World => goodT (w := W) hx.ck hy.ck)
  have HG2 := Lib.hid (fun W : World => goodT (w := W) hy.ck hz.ck)
  have HXY : Hid (∀ W : World, Calls Tryd.prog 20 #[.agg #[.int .i64 m, .int .i64 (s : Nat)], .agg #[.int .i64 m, .int .i64 (t : Nat)]] W fun e w' => e = .returned (.int .i64 1) ∧ Below W.heap.size W w') := Lib.hid (fun _ => hX ▸ compare_any hx hy)
  have HYZ : Hid (∀ W : World, Calls Tryd.prog 20 #[.agg #[.int .i64 m, .int .i64 (t : Nat)], .agg #[.int .i64 k, .int .i64 (u : Nat)]] W fun e w' => e = .returned (.int .i64 1) ∧ Below W.heap.size W w') := Lib.hid (fun _ => hY ▸ compare_any hy hz)
  have HXZ : Hid (∀ W : World, Calls Tryd.prog 20 #[.agg #[.int .i64 m, .int .i64 (s : Nat)], .agg #[.int .i64 k, .int .i64 (u : Nat)]] W fun e w' => e = .returned (.int .i64 1) ∧ Below W.heap.size W w') := Lib.hid (fun _ => hZ ▸ compare_any hx hz)
  have HYX : Hid (∀ W : World, Calls Tryd.prog 20 #[.agg #[.int .i64 m, .int .i64 (t : Nat)], .agg #[.int .i64 m, .int .i64 (s : Nat)]] W fun e w' => e = .returned (.int .i64 (-1)) ∧ Below W.heap.size W w') := Lib.hid (fun _ => hX2 ▸ compare_any hy hx)
  have HP : Hid (∀ W : World, Calls Tryd.prog 18 #[.agg #[.int .i64 m, .int .i64 (s : Nat)], .agg #[.int .i64 k, .int .i64 (u : Nat)]] W fun e w' => e = .returned (.tuple #[.agg #[.int .i64 (addD m s k u).m, .int .i64 ((addD m s k u).s : Nat)], .int .i64 ((addD m s k u).e : Nat)]) ∧ Below W.heap.size W w') := Lib.hid (fun _ => dadd_any hx hz)
  have HQ : Hid (∀ W : World, Calls Tryd.prog 18 #[.agg #[.int .i64 m, .int .i64 (t : Nat)], .agg #[.int .i64 k, .int .i64 (u : Nat)]] W fun e w' => e = .returned (.tuple #[.agg #[.int .i64 (addD m t k u).m, .int .i64 ((addD m t k u).s : Nat)], .int .i64 ((addD m t k u).e : Nat)]) ∧ Below W.heap.size W w') := Lib.hid (fun _ => dadd_any hy hz)
  have HR : Hid (((addD m s k u).e : Int) = 0 → ((addD m t k u).e : Int) = 0 → Hid (∀ W : World, Calls Tryd.prog 20 #[.agg #[.int .i64 (addD m s k u).m, .int .i64 ((addD m s k u).s : Nat)], .agg #[.int .i64 (addD m t k u).m, .int .i64 ((addD m t k u).s : Nat)]] W fun e w' => e = .returned (.int .i64 1) ∧ Below W.heap.size W w')) := Lib.hid (fun h1 h2 => Lib.hid (fun W => by
    obtain ⟨g1, v1⟩ := add_ok (m := m) (n := k) (s := s) (t := u) (by omega)
    obtain ⟨g2, v2⟩ := add_ok (m := m) (n := k) (s := t) (t := u) (by omega)
    have := compare_any (w := W) g1 g2
    rw [v1, v2, cmp_add, hX] at this
    exact this))
  have hE1 : ((addD m s k u).e : Int) = 0 ∨ ((addD m s k u).e : Int) = 8 := by
    have := tl_e (val m s + val k u) 9
    unfold addD
    omega
  have hE2 : ((addD m t k u).e : Int) = 0 ∨ ((addD m t k u).e : Int) = 8 := by
    have := tl_e (val m t + val k u) 9
    unfold addD
    omega
  have hne : ((s : Int) == (t : Int)) = false := by simp; omega
  clear hst
  clear hX hX2 hY hZ
  generalize ((addD m s k u).e : Int) = E1 at *
  generalize (addD m s k u).m = p at *
  generalize (addD m s k u).s = q at *
  generalize ((addD m t k u).e : Int) = E2 at *
  generalize (addD m t k u).m = p' at *
  generalize (addD m t k u).s = q' at *
  have Hhe := Lib.hid (And.intro hE1 hE2)
  clear hE1 hE2 hy hx hz
  have H0 : Hid (SB w 3 [((w.heap.size + 1 + 1), 23, #[.int .i64 k, .int .i64 (u : Nat)]), ((w.heap.size + 1), 23, #[.int .i64 m, .int .i64 (t : Nat)]), (w.heap.size, 23, #[.int .i64 m, .int .i64 (s : Nat)])] (((w.alloc (.cells #[.int .i64 m, .int .i64 (s : Nat)] 23)).alloc (.cells #[.int .i64 m, .int .i64 (t : Nat)] 23)).alloc (.cells #[.int .i64 k, .int .i64 (u : Nat)] 23))) := Lib.hid (((sb1 w 23 _).push (by simp) 23 _).push (by simp) 23 _)
  go_enter Tryd.func7, Tryd.ntmps7
  go_wp2_with fail
  refine (HK.out _).mono ?_
  rintro e w1 ⟨rfl, hb⟩
  have HB := Lib.hid (H0.out.call hb)
  clear hb H0
  have q0 := HB.out.bk _ (.head _)
  have c00 := q0.cell 0
  have c01 := q0.cell 1
  clear q0
  have q1 := HB.out.bk _ (.tail _ (.head _))
  have c10 := q1.cell 0
  have c11 := q1.cell 1
  clear q1
  have q2 := HB.out.bk _ (.tail _ (.tail _ (.head _)))
  have c20 := q2.cell 0
  have c21 := q2.cell 1
  clear q2
  go_wp2_with fail
  refine (HG1.out _).mono ?_
  rintro e w2 ⟨rfl, hb⟩
  clear c00 c01 c10 c11 c20 c21
  have HB2 := Lib.hid (HB.out.call hb)
  clear hb HB
  have HB := HB2
  clear HB2
  have q0 := HB.out.bk _ (.head _)
  have c00 := q0.cell 0
  have c01 := q0.cell 1
  clear q0
  have q1 := HB.out.bk _ (.tail _ (.head _))
  have c10 := q1.cell 0
  have c11 := q1.cell 1
  clear q1
  have q2 := HB.out.bk _ (.tail _ (.tail _ (.head _)))
  have c20 := q2.cell 0
  have c21 := q2.cell 1
  clear q2
  go_wp2_with fail
  refine (HG2.out _).mono ?_
  rintro e w3 ⟨rfl, hb⟩
  clear c00 c01 c10 c11 c20 c21
  have HB3 := Lib.hid (HB.out.call hb)
  clear hb HB
  have HB := HB3
  clear HB3
  go_wp2_with fail
  refine wp_region_phases (S := (S1 w 3 ([((w.heap.size + 1 + 1), 23, #[.int .i64 k, .int .i64 (u : Nat)]), ((w.heap.size + 1), 23, #[.int .i64 m, .int .i64 (t : Nat)]), (w.heap.size, 23, #[.int .i64 m, .int .i64 (s : Nat)])] : List (Nat × TypeId × Array Value)) ([((w.heap.size + 1 + 1), 23, #[.int .i64 k, .int .i64 (u : Nat)]), ((w.heap.size + 1), 23, #[.int .i64 m, .int .i64 (t : Nat)]), (w.heap.size, 23, #[.int .i64 m, .int .i64 (s : Nat)])] : List (Nat × TypeId × Array Value)))) (E := (fun _ _ => True)) [] [(3, Is (.pointer (some ⟨w.heap.size, 0, none⟩))), (4, Is (.pointer (some ⟨(w.heap.size + 1), 0, none⟩))), (5, Is (.pointer (some ⟨(w.heap.size + 1 + 1), 0, none⟩)))] [(26, Is (.agg #[.int .i64 m, .int .i64 (s : Nat)])), (27, Is (.agg #[.int .i64 m, .int .i64 (t : Nat)])), (28, Is (.int .i64 1)), (29, Is (.agg #[.int .i64 m, .int .i64 (t : Nat)])), (30, Is (.agg #[.int .i64 k, .int .i64 (u : Nat)])), (31, Is (.int .i64 1)), (32, Is (.agg #[.int .i64 m, .int .i64 (s : Nat)])), (33, Is (.agg #[.int .i64 k, .int .i64 (u : Nat)])), (34, Is (.int .i64 1)), (7, Is (.int .i64 1)), (8, Is (.int .i64 1)), (9, Is (.int .i64 1))]
    [.op [3] none, .op [4] none, .op [26, 27] none, .op [4] none, .op [5] none, .op [29, 30] none, .op [3] none, .op [5] none, .op [32, 33] none, .op [28] none, .op [31] none, .op [34] none] (by as_aux_lemma => kernel_rfl) ?_ ?_ ?_ ?_ ?_ ⟨stable_is _ _, stable_is _ _, stable_is _ _, stable_is _ _, stable_is _ _, stable_is _ _, stable_is _ _, stable_is _ _, stable_is _ _, stable_is _ _, stable_is _ _, stable_is _ _, stable_is _ _, stable_is _ _, stable_is _ _, trivial⟩ ?_ (HB.out.drew) ?_ ?_
  · as_aux_lemma => kernel_rfl
  · as_aux_lemma => kernel_rfl
  · as_aux_lemma => kernel_rfl
  · as_aux_lemma => kernel_rfl
  · as_aux_lemma => kernel_rfl
  · exact ⟨rfl, rfl, rfl, trivial⟩
  · refine ⟨?_, ?_, ?_, ?_, ?_, ?_, ?_, ?_, ?_, ?_, ?_, ?_, trivial⟩
    · as_aux_lemma =>
        intro vals a W hS hL
        have e3 : a.tmps.getD 3 undef = .pointer (some ⟨w.heap.size, 0, none⟩) := hL.1
        clear hL
        have kb : Bk W w.heap.size 23 #[.int .i64 m, .int .i64 (s : Nat)] := hS.bk (.tail _ (.tail _ (.head _))) (.tail _ (.tail _ (.head _)))
        have f0 := kb.cell 0
        have f1 := kb.cell 1
        clear kb
        go_simp
        exact ⟨⟨fun d hd => by injection hd with hd; subst hd; rfl, fun h => by cases h⟩, hS, trivial⟩
    · as_aux_lemma =>
        intro vals a W hS hL
        have e4 : a.tmps.getD 4 undef = .pointer (some ⟨(w.heap.size + 1), 0, none⟩) := hL.1
        clear hL
        have kb : Bk W (w.heap.size + 1) 23 #[.int .i64 m, .int .i64 (t : Nat)] := hS.bk (.tail _ (.head _)) (.tail _ (.head _))
        have f0 := kb.cell 0
        have f1 := kb.cell 1
        clear kb
        go_simp
        exact ⟨⟨fun d hd => by injection hd with hd; subst hd; rfl, fun h => by cases h⟩, hS, trivial⟩
    · as_aux_lemma =>
        intro vals a W hS hL
        have e26 : a.tmps.getD 26 undef = .agg #[.int .i64 m, .int .i64 (s : Nat)] := hL.1
        have e27 : a.tmps.getD 27 undef = .agg #[.int .i64 m, .int .i64 (t : Nat)] := hL.2.1
        clear hL
        go_simp
        refine (HXY.out W).mono ?_
        rintro e W' ⟨rfl, hb⟩
        exact ⟨_, rfl, ⟨fun d hd => by injection hd with hd; subst hd; rfl, fun h => by cases h⟩, hS.call hb, trivial⟩
    · as_aux_lemma =>
        intro vals a W hS hL
        have e4 : a.tmps.getD 4 undef = .pointer (some ⟨(w.heap.size + 1), 0, none⟩) := hL.1
        clear hL
        have kb : Bk W (w.heap.size + 1) 23 #[.int .i64 m, .int .i64 (t : Nat)] := hS.bk (.tail _ (.head _)) (.tail _ (.head _))
        have f0 := kb.cell 0
        have f1 := kb.cell 1
        clear kb
        go_simp
        exact ⟨⟨fun d hd => by injection hd with hd; subst hd; rfl, fun h => by cases h⟩, hS, trivial⟩
    · as_aux_lemma =>
        intro vals a W hS hL
        have e5 : a.tmps.getD 5 undef = .pointer (some ⟨(w.heap.size + 1 + 1), 0, none⟩) := hL.1
        clear hL
        have kb : Bk W (w.heap.size + 1 + 1) 23 #[.int .i64 k, .int .i64 (u : Nat)] := hS.bk (.head _) (.head _)
        have f0 := kb.cell 0
        have f1 := kb.cell 1
        clear kb
        go_simp
        exact ⟨⟨fun d hd => by injection hd with hd; subst hd; rfl, fun h => by cases h⟩, hS, trivial⟩
    · as_aux_lemma =>
        intro vals a W hS hL
        have e29 : a.tmps.getD 29 undef = .agg #[.int .i64 m, .int .i64 (t : Nat)] := hL.1
        have e30 : a.tmps.getD 30 undef = .agg #[.int .i64 k, .int .i64 (u : Nat)] := hL.2.1
        clear hL
        go_simp
        refine (HYZ.out W).mono ?_
        rintro e W' ⟨rfl, hb⟩
        exact ⟨_, rfl, ⟨fun d hd => by injection hd with hd; subst hd; rfl, fun h => by cases h⟩, hS.call hb, trivial⟩
    · as_aux_lemma =>
        intro vals a W hS hL
        have e3 : a.tmps.getD 3 undef = .pointer (some ⟨w.heap.size, 0, none⟩) := hL.1
        clear hL
        have kb : Bk W w.heap.size 23 #[.int .i64 m, .int .i64 (s : Nat)] := hS.bk (.tail _ (.tail _ (.head _))) (.tail _ (.tail _ (.head _)))
        have f0 := kb.cell 0
        have f1 := kb.cell 1
        clear kb
        go_simp
        exact ⟨⟨fun d hd => by injection hd with hd; subst hd; rfl, fun h => by cases h⟩, hS, trivial⟩
    · as_aux_lemma =>
        intro vals a W hS hL
        have e5 : a.tmps.getD 5 undef = .pointer (some ⟨(w.heap.size + 1 + 1), 0, none⟩) := hL.1
        clear hL
        have kb : Bk W (w.heap.size + 1 + 1) 23 #[.int .i64 k, .int .i64 (u : Nat)] := hS.bk (.head _) (.head _)
        have f0 := kb.cell 0
        have f1 := kb.cell 1
        clear kb
        go_simp
        exact ⟨⟨fun d hd => by injection hd with hd; subst hd; rfl, fun h => by cases h⟩, hS, trivial⟩
    · as_aux_lemma =>
        intro vals a W hS hL
        have e32 : a.tmps.getD 32 undef = .agg #[.int .i64 m, .int .i64 (s : Nat)] := hL.1
        have e33 : a.tmps.getD 33 undef = .agg #[.int .i64 k, .int .i64 (u : Nat)] := hL.2.1
        clear hL
        go_simp
        refine (HXZ.out W).mono ?_
        rintro e W' ⟨rfl, hb⟩
        exact ⟨_, rfl, ⟨fun d hd => by injection hd with hd; subst hd; rfl, fun h => by cases h⟩, hS.call hb, trivial⟩
    · as_aux_lemma =>
        intro vals a W hS hL
        have e28 : a.tmps.getD 28 undef = .int .i64 1 := hL.1
        clear hL
        go_simp
        exact ⟨⟨fun d hd => by injection hd with hd; subst hd; rfl, fun h => by cases h⟩, hS, trivial⟩
    · as_aux_lemma =>
        intro vals a W hS hL
        have e31 : a.tmps.getD 31 undef = .int .i64 1 := hL.1
        clear hL
        go_simp
        exact ⟨⟨fun d hd => by injection hd with hd; subst hd; rfl, fun h => by cases h⟩, hS, trivial⟩
    · as_aux_lemma =>
        intro vals a W hS hL
        have e34 : a.tmps.getD 34 undef = .int .i64 1 := hL.1
        clear hL
        go_simp
        exact ⟨⟨fun d hd => by injection hd with hd; subst hd; rfl, fun h => by cases h⟩, hS, trivial⟩
  · intro a W' vals hd hsz hT hF hv hP hS
    obtain rfl : vals = [] := List.eq_nil_of_length_eq_zero hv
    have hB : SB w 3 ([((w.heap.size + 1 + 1), 23, #[.int .i64 k, .int .i64 (u : Nat)]), ((w.heap.size + 1), 23, #[.int .i64 m, .int .i64 (t : Nat)]), (w.heap.size, 23, #[.int .i64 m, .int .i64 (s : Nat)])] : List (Nat × TypeId × Array Value)) W' := hS
    clear hS
    have e3 : a.tmps.getD 3 undef = .pointer (some ⟨w.heap.size, 0, none⟩) := hT 3 (by simp)
    have e4 : a.tmps.getD 4 undef = .pointer (some ⟨(w.heap.size + 1), 0, none⟩) := hT 4 (by simp)
    have e5 : a.tmps.getD 5 undef = .pointer (some ⟨(w.heap.size + 1 + 1), 0, none⟩) := hT 5 (by simp)
    have e7 : a.tmps.getD 7 undef = .int .i64 1 := hT 7 (by simp)
    have e8 : a.tmps.getD 8 undef = .int .i64 1 := hT 8 (by simp)
    have e9 : a.tmps.getD 9 undef = .int .i64 1 := hT 9 (by simp)
    clear hT hF hP
    rw [act_lit 98 a hd hsz]
    simp only [List.range, List.range.loop, List.map, e3, e4, e5, e7, e8, e9]
    clear e3 e4 e5 e7 e8 e9
    have k5 := hB.bk _ (List.mem_cons_self ..)
    have c50 := k5.cell 0
    have c51 := k5.cell 1
    clear k5
    have k4 := hB.bk _ (.tail _ (.head _))
    have c40 := k4.cell 0
    have c41 := k4.cell 1
    clear k4
    have k3 := hB.bk _ (.tail _ (.tail _ (.head _)))
    have c30 := k3.cell 0
    have c31 := k3.cell 1
    clear k3
    have HB2 := Lib.hid hB
    clear hB HB
    have HB := HB2
    clear HB2 HXY HYZ HXZ HK HG1 HG2
    go_wp2_with fail
    refine (HYX.out _).mono ?_
    rintro e w6 ⟨rfl, hb⟩
    have HB2 := Lib.hid (HB.out.call hb)
    clear hb HB HYX
    have HB := HB2
    clear HB2
    clear c50 c51 c40 c41 c30 c31
    have k5 := HB.out.bk _ (List.mem_cons_self ..)
    have c50 := k5.cell 0
    have c51 := k5.cell 1
    clear k5
    have k4 := HB.out.bk _ (.tail _ (.head _))
    have c40 := k4.cell 0
    have c41 := k4.cell 1
    clear k4
    have k3 := HB.out.bk _ (.tail _ (.tail _ (.head _)))
    have c30 := k3.cell 0
    have c31 := k3.cell 1
    clear k3
    go_wp2_with fail
    refine (HP.out _).mono ?_
    rintro e w7 ⟨rfl, hb⟩
    have HB2 := Lib.hid ((HB.out.call hb).alloc 23 #[.int .i64 p, .int .i64 (q : Nat)])
    clear hb HB
    have HB := HB2
    clear HB2
    clear c50 c51 c40 c41 c30 c31
    have k5 := HB.out.bk _ (.tail _ (.head _))
    have c50 := k5.cell 0
    have c51 := k5.cell 1
    clear k5
    have k4 := HB.out.bk _ (.tail _ (.tail _ (.head _)))
    have c40 := k4.cell 0
    have c41 := k4.cell 1
    clear k4
    have k3 := HB.out.bk _ (.tail _ (.tail _ (.tail _ (.head _))))
    have c30 := k3.cell 0
    have c31 := k3.cell 1
    clear k3
    go_wp2_with fail
    refine (HQ.out _).mono ?_
    rintro e w8 ⟨rfl, hb⟩
    have HB2 := Lib.hid ((HB.out.call hb).alloc 23 #[.int .i64 p', .int .i64 (q' : Nat)])
    clear hb HB HP HQ
    have HB := HB2
    clear HB2
    clear c50 c51 c40 c41 c30 c31
    rcases Hhe.out with ⟨rfl | rfl, rfl | rfl⟩
    · have HS := HR.out rfl rfl
      clear HR Hhe
      have k7 := HB.out.bk _ (List.mem_cons_self ..)
      have c70 := k7.cell 0
      have c71 := k7.cell 1
      clear k7
      have k6 := HB.out.bk _ (.tail _ (.head _))
      have c60 := k6.cell 0
      have c61 := k6.cell 1
      clear k6
      go_wp2_with fail
      refine (HS.out _).mono ?_
      rintro e w9 ⟨rfl, hb⟩
      have hbel := (HB.out.call hb).bel
      clear hb HB c70 c71 c60 c61
      go_wp2
      go_ret
      exact ⟨rfl, hbel⟩
    · clear HR Hhe
      have hbel := HB.out.bel
      go_wp2
      go_ret
      exact ⟨rfl, hbel⟩
    · clear HR Hhe
      have hbel := HB.out.bel
      go_wp2
      go_ret
      exact ⟨rfl, hbel⟩
    · clear HR Hhe
      have hbel := HB.out.bel
      go_wp2
      go_ret
      exact ⟨rfl, hbel⟩

end Go.Proofs.YtfkfgfajdmacbaaDoor
