/- cashbooklaw4.DecLaws by its contract: it returns true. Condition: numbers within their kinds. -/
import Derived.Test.YtfkfgfajdmacbaaDoorFloorsLaw
namespace Go.Proofs.YtfkfgfajdmacbaaDoor
open Go.RowKit

set_option maxRecDepth 100000 in
set_option maxHeartbeats 4000000 in
theorem laws_good {w : World} {m n c s t : Int} (m0 : -2147483648 ≤ m) (m1 : m ≤ 2147483647) (n0 : -2147483648 ≤ n) (n1 : n ≤ 2147483647) (c0 : -2147483648 ≤ c) (c1 : c ≤ 2147483647) (s0 : 0 ≤ s) (t0 : 0 ≤ t) :
    Calls Tryd.prog 4 #[.int .i32 m, .int .i32 n, .int .i32 c, .int .u8 s, .int .u8 t] w fun e w' => e = .returned (.bool true) ∧ Below w.heap.size w w' := by
  have HK := Lib.hid (fun W : World => known4_any W)
  have HB : Hid (SB w 0 [] w) := Lib.hid ⟨Below.refl _ _, Nat.le_refl _, fun x hx => by cases hx⟩
  have hm : wrap64 m = m := IntWalk.wrap64_in _ ⟨by omega, by omega⟩
  have hn : wrap64 n = n := IntWalk.wrap64_in _ ⟨by omega, by omega⟩
  have hc : wrap64 c = c := IntWalk.wrap64_in _ ⟨by omega, by omega⟩
  obtain ⟨S, hS, hS9⟩ : ∃ S : Nat, wrap64 (s.tmod 10) = (S : Int) ∧ S ≤ 9 := by
    have e := Int.tmod_eq_emod_of_nonneg (b := 10) s0
    exact ⟨(s % 10).toNat, by rw [e, IntWalk.wrap64_in _ ⟨by omega, by omega⟩]; omega, by omega⟩
  obtain ⟨T, hT, hT9⟩ : ∃ T : Nat, wrap64 (t.tmod 10) = (T : Int) ∧ T ≤ 9 := by
    have e := Int.tmod_eq_emod_of_nonneg (b := 10) t0
    exact ⟨(t % 10).toNat, by rw [e, IntWalk.wrap64_in _ ⟨by omega, by omega⟩]; omega, by omega⟩
  obtain ⟨ex, sx⟩ := sm_tl (v := m) hS9 (by omega)
  obtain ⟨ey, sy⟩ := sm_tl (v := n) hT9 (by omega)
  have dx := sx.gd
  have dy := sy.gd
  have dz : Gd c 0 := ⟨by omega, by omega, by omega, .inl rfl⟩
  have ea := add_small sx sy
  have es := sub_small sx sy
  obtain ⟨ga, va⟩ := add_ok ea
  obtain ⟨gs, vs⟩ := sub_ok es
  have HNx : Hid (∀ W : World, Calls Tryd.prog 10 #[.agg #[.int .i64 m, .int .i64 (S : Nat)]] W fun e w' => e = .returned (.agg #[.int .i64 (tl m S).m, .int .i64 ((tl m S).s : Nat)]) ∧ Below W.heap.size W w') := Lib.hid (fun _ => norm_any (by omega) (by omega) hS9)
  have HNy : Hid (∀ W : World, Calls Tryd.prog 10 #[.agg #[.int .i64 n, .int .i64 (T : Nat)]] W fun e w' => e = .returned (.agg #[.int .i64 (tl n T).m, .int .i64 ((tl n T).s : Nat)]) ∧ Below W.heap.size W w') := Lib.hid (fun _ => norm_any (by omega) (by omega) hT9)
  have HI : Hid (∀ W : World, Calls Tryd.prog 17 #[.int .i64 c] W fun e w' => e = .returned (.agg #[.int .i64 c, .int .i64 0]) ∧ Below W.heap.size W w') := Lib.hid (fun _ => int_any)
  have HA : Hid (∀ W : World, Calls Tryd.prog 18 #[.agg #[.int .i64 (tl m S).m, .int .i64 ((tl m S).s : Nat)], .agg #[.int .i64 (tl n T).m, .int .i64 ((tl n T).s : Nat)]] W fun e w' => e = .returned (.tuple #[.agg #[.int .i64 (addD (tl m S).m (tl m S).s (tl n T).m (tl n T).s).m, .int .i64 ((addD (tl m S).m (tl m S).s (tl n T).m (tl n T).s).s : Nat)], .int .i64 0]) ∧ Below W.heap.size W w') := Lib.hid (fun W => by
    have := dadd_any (w := W) dx dy
    rw [dv_parts, ea] at this
    exact this)
  have HA2 : Hid (∀ W : World, Calls Tryd.prog 18 #[.agg #[.int .i64 (tl n T).m, .int .i64 ((tl n T).s : Nat)], .agg #[.int .i64 (tl m S).m, .int .i64 ((tl m S).s : Nat)]] W fun e w' => e = .returned (.tuple #[.agg #[.int .i64 (addD (tl m S).m (tl m S).s (tl n T).m (tl n T).s).m, .int .i64 ((addD (tl m S).m (tl m S).s (tl n T).m (tl n T).s).s : Nat)], .int .i64 0]) ∧ Below W.heap.size W w') := Lib.hid (fun W => by
    have := dadd_any (w := W) dy dx
    rw [add_comm', dv_parts, ea] at this
    exact this)
  have HS1 : Hid (∀ W : World, Calls Tryd.prog 19 #[.agg #[.int .i64 (addD (tl m S).m (tl m S).s (tl n T).m (tl n T).s).m, .int .i64 ((addD (tl m S).m (tl m S).s (tl n T).m (tl n T).s).s : Nat)], .agg #[.int .i64 (tl n T).m, .int .i64 ((tl n T).s : Nat)]] W fun e w' => e = .returned (.tuple #[.agg #[.int .i64 (tl m S).m, .int .i64 ((tl m S).s : Nat)], .int .i64 0]) ∧ Below W.heap.size W w') := Lib.hid (fun W => by
    have := dsub_any (w := W) ga dy
    rw [sub_add dx va] at this
    exact this)
  have HS2 : Hid (∀ W : World, Calls Tryd.prog 19 #[.agg #[.int .i64 (tl m S).m, .int .i64 ((tl m S).s : Nat)], .agg #[.int .i64 (tl n T).m, .int .i64 ((tl n T).s : Nat)]] W fun e w' => e = .returned (.tuple #[.agg #[.int .i64 (subD (tl m S).m (tl m S).s (tl n T).m (tl n T).s).m, .int .i64 ((subD (tl m S).m (tl m S).s (tl n T).m (tl n T).s).s : Nat)], .int .i64 0]) ∧ Below W.heap.size W w') := Lib.hid (fun W => by
    have := dsub_any (w := W) dx dy
    rw [dv_parts, es] at this
    exact this)
  have HXY : Hid (∀ W : World, Calls Tryd.prog 20 #[.agg #[.int .i64 (tl m S).m, .int .i64 ((tl m S).s : Nat)], .agg #[.int .i64 (tl n T).m, .int .i64 ((tl n T).s : Nat)]] W fun e w' => e = .returned (.int .i64 (cmp (val (tl m S).m (tl m S).s) (val (tl n T).m (tl n T).s))) ∧ Below W.heap.size W w') := Lib.hid (fun _ => compare_any dx dy)
  have HYX : Hid (∀ W : World, Calls Tryd.prog 20 #[.agg #[.int .i64 (tl n T).m, .int .i64 ((tl n T).s : Nat)], .agg #[.int .i64 (tl m S).m, .int .i64 ((tl m S).s : Nat)]] W fun e w' => e = .returned (.int .i64 (cmp (val (tl n T).m (tl n T).s) (val (tl m S).m (tl m S).s))) ∧ Below W.heap.size W w') := Lib.hid (fun _ => compare_any dy dx)
  have HU : Hid (∀ W : World, Calls Tryd.prog 20 #[.agg #[.int .i64 (subD (tl m S).m (tl m S).s (tl n T).m (tl n T).s).m, .int .i64 ((subD (tl m S).m (tl m S).s (tl n T).m (tl n T).s).s : Nat)], .agg #[.int .i64 0, .int .i64 0]] W fun e w' => e = .returned (.int .i64 (cmp (val (tl m S).m (tl m S).s) (val (tl n T).m (tl n T).s))) ∧ Below W.heap.size W w') := Lib.hid (fun W => by
    have := compare_any (w := W) gs (show Gd 0 0 from ⟨by omega, by omega, by omega, .inl rfl⟩)
    rw [vs, val_whole 0, Int.zero_mul, cmp_sub] at this
    exact this)
  have HW : Hid (wrap64 (-(cmp (val (tl n T).m (tl n T).s) (val (tl m S).m (tl m S).s))) = (cmp (val (tl m S).m (tl m S).s) (val (tl n T).m (tl n T).s))) := Lib.hid (by
    have h1 := cmp_neg (val (tl n T).m (tl n T).s) (val (tl m S).m (tl m S).s)
    have h2 := cmp_bd (val (tl n T).m (tl n T).s) (val (tl m S).m (tl m S).s)
    rw [IntWalk.wrap64_in _ ⟨by omega, by omega⟩]; omega)
  have HM : Hid (∀ W : World, Calls Tryd.prog 21 #[.agg #[.int .i64 (tl m S).m, .int .i64 ((tl m S).s : Nat)], .agg #[.int .i64 c, .int .i64 0]] W fun e w' => e = .returned (.tuple #[.agg #[.int .i64 (mulD (tl m S).m (tl m S).s c 0).m, .int .i64 ((mulD (tl m S).m (tl m S).s c 0).s : Nat)], .int .i64 ((mulD (tl m S).m (tl m S).s c 0).e : Nat)]) ∧ Below W.heap.size W w') := Lib.hid (fun _ => mul_any dx dz)
  have HM2 : Hid (∀ W : World, Calls Tryd.prog 21 #[.agg #[.int .i64 c, .int .i64 0], .agg #[.int .i64 (tl m S).m, .int .i64 ((tl m S).s : Nat)]] W fun e w' => e = .returned (.tuple #[.agg #[.int .i64 (mulD (tl m S).m (tl m S).s c 0).m, .int .i64 ((mulD (tl m S).m (tl m S).s c 0).s : Nat)], .int .i64 ((mulD (tl m S).m (tl m S).s c 0).e : Nat)]) ∧ Below W.heap.size W w') := Lib.hid (fun W => by
    have := mul_any (w := W) dz dx
    rw [mul_comm', dv_parts] at this
    exact this)
  have HE : Hid (((mulD (tl m S).m (tl m S).s c 0).e : Int) = 0 ∨ ((mulD (tl m S).m (tl m S).s c 0).e : Int) = 8) := Lib.hid (by
    rw [mul_whole dx.s9]
    have := tl_e ((tl m S).m * c) (tl m S).s
    omega)
  have HD : Hid (((mulD (tl m S).m (tl m S).s c 0).e : Int) = 0 → c ≠ 0 → Hid (∀ W : World, Calls Tryd.prog 22 #[.agg #[.int .i64 (mulD (tl m S).m (tl m S).s c 0).m, .int .i64 ((mulD (tl m S).m (tl m S).s c 0).s : Nat)], .agg #[.int .i64 c, .int .i64 0]] W fun e w' => e = .returned (.tuple #[.agg #[.int .i64 (tl m S).m, .int .i64 ((tl m S).s : Nat)], .int .i64 0]) ∧ Below W.heap.size W w')) := Lib.hid (fun h1 h2 => Lib.hid (fun W => by
    have h0 : (mulD (tl m S).m (tl m S).s c 0).e = 0 := by omega
    rw [mul_whole dx.s9] at h0 ⊢
    obtain ⟨gv, vv⟩ := tl_ok dx.s9 h0
    have := div_any (w := W) gv dz h2
    rw [div_mul dx h2 gv.s9 (by rw [vv]; unfold val; rw [Int.mul_assoc, Int.mul_assoc, Int.mul_comm c])] at this
    exact this))
  clear ga va gs vs ea es dx dy dz sx sy ex ey hS9 hT9 m0 m1 n0 n1 c0 c1 s0 t0
  generalize (cmp (val (tl m S).m (tl m S).s) (val (tl n T).m (tl n T).s)) = X at *
  generalize (cmp (val (tl n T).m (tl n T).s) (val (tl m S).m (tl m S).s)) = X2 at *
  generalize ((mulD (tl m S).m (tl m S).s c 0).e : Int) = E at *
  generalize (mulD (tl m S).m (tl m S).s c 0).m = vm at *
  generalize (mulD (tl m S).m (tl m S).s c 0).s = vs at *
  generalize (addD (tl m S).m (tl m S).s (tl n T).m (tl n T).s).m = pm at *
  generalize (addD (tl m S).m (tl m S).s (tl n T).m (tl n T).s).s = ps at *
  generalize (subD (tl m S).m (tl m S).s (tl n T).m (tl n T).s).m = um at *
  generalize (subD (tl m S).m (tl m S).s (tl n T).m (tl n T).s).s = us at *
  generalize (tl m S).m = xm at *
  generalize (tl m S).s = xs at *
  generalize (tl n T).m = ym at *
  generalize (tl n T).s = ys at *
  go_enter Tryd.func4, Tryd.ntmps4
  go_wp2_with fail
  refine (HK.out _).mono ?_
  rintro e w1 ⟨rfl, hb⟩
  have HB2 := Lib.hid (HB.out.call hb)
  clear hb HB
  have HB := HB2
  clear HB2
  go_wp2_with fail
  refine (HNx.out _).mono ?_
  rintro e w2 ⟨rfl, hb⟩
  have HB2 := Lib.hid (HB.out.call hb)
  clear hb HB
  have HB := HB2
  clear HB2
  go_wp2_with fail
  refine (HNy.out _).mono ?_
  rintro e w3 ⟨rfl, hb⟩
  have HB2 := Lib.hid (HB.out.call hb)
  clear hb HB
  have HB := HB2
  clear HB2
  go_wp2_with fail
  refine (HI.out _).mono ?_
  rintro e w4 ⟨rfl, hb⟩
  have HB2 := Lib.hid (HB.out.call hb)
  clear hb HB
  have HB := HB2
  clear HB2
  have HB2 : Hid (SB w 0 [(w4.heap.size + 1 + 1, 23, #[.int .i64 c, .int .i64 0]), (w4.heap.size + 1, 23, #[.int .i64 ym, .int .i64 (ys : Nat)]), (w4.heap.size, 23, #[.int .i64 xm, .int .i64 (xs : Nat)])] (((w4.alloc (.cells #[.int .i64 xm, .int .i64 (xs : Nat)] 23)).alloc (.cells #[.int .i64 ym, .int .i64 (ys : Nat)] 23)).alloc (.cells #[.int .i64 c, .int .i64 0] 23))) := Lib.hid (by
    have h := ((HB.out.alloc 23 #[.int .i64 xm, .int .i64 (xs : Nat)]).alloc 23 #[.int .i64 ym, .int .i64 (ys : Nat)]).alloc 23 #[.int .i64 c, .int .i64 0]
    simp only [World.size_alloc] at h
    exact h)
  clear HB hm hn hS hT
  have HB := HB2
  clear HB2
  go_wp2_with fail
  refine (HA.out _).mono ?_
  rintro e w5 ⟨rfl, hb⟩
  have HB2 := Lib.hid ((HB.out.call hb).alloc 23 #[.int .i64 pm, .int .i64 (ps : Nat)])
  clear hb HB
  have HB := HB2
  clear HB2
  have k2 := HB.out.bk _ (.tail _ (.tail _ (.head _)))
  have c20 := k2.cell 0
  have c21 := k2.cell 1
  clear k2
  have k1 := HB.out.bk _ (.tail _ (.tail _ (.tail _ (.head _))))
  have c10 := k1.cell 0
  have c11 := k1.cell 1
  clear k1
  go_wp2_with fail
  refine (HA2.out _).mono ?_
  rintro e w6 ⟨rfl, hb⟩
  have HB2 := Lib.hid ((HB.out.call hb).alloc 23 #[.int .i64 pm, .int .i64 (ps : Nat)])
  clear hb HB
  have HB := HB2
  clear HB2
  clear c20 c21 c10 c11
  have k6 := HB.out.bk _ (List.mem_cons_self ..)
  have c60 := k6.cell 0
  have c61 := k6.cell 1
  clear k6
  have k4 := HB.out.bk _ (.tail _ (.head _))
  have c40 := k4.cell 0
  have c41 := k4.cell 1
  clear k4
  have k2 := HB.out.bk _ (.tail _ (.tail _ (.tail _ (.head _))))
  have c20 := k2.cell 0
  have c21 := k2.cell 1
  clear k2
  go_wp2_with fail
  refine (HS1.out _).mono ?_
  rintro e w7 ⟨rfl, hb⟩
  have HB2 := Lib.hid ((HB.out.call hb).alloc 23 #[.int .i64 xm, .int .i64 (xs : Nat)])
  clear hb HB
  have HB := HB2
  clear HB2
  clear c60 c61 c40 c41 c20 c21
  have k2 := HB.out.bk _ (.tail _ (.tail _ (.tail _ (.tail _ (.head _)))))
  have c20 := k2.cell 0
  have c21 := k2.cell 1
  clear k2
  have k1 := HB.out.bk _ (.tail _ (.tail _ (.tail _ (.tail _ (.tail _ (.head _))))))
  have c10 := k1.cell 0
  have c11 := k1.cell 1
  clear k1
  go_wp2_with fail
  refine (HS2.out _).mono ?_
  rintro e w8 ⟨rfl, hb⟩
  have HB2 := Lib.hid ((HB.out.call hb).alloc 23 #[.int .i64 um, .int .i64 (us : Nat)])
  clear hb HB
  have HB := HB2
  clear HB2
  clear c20 c21 c10 c11
  go_wp2_with fail
  refine wp_region_phases (S := (S1 w 0 ([(w8.heap.size, 23, #[.int .i64 um, .int .i64 (us : Nat)]), (w7.heap.size, 23, #[.int .i64 xm, .int .i64 (xs : Nat)]), (w6.heap.size, 23, #[.int .i64 pm, .int .i64 (ps : Nat)]), (w5.heap.size, 23, #[.int .i64 pm, .int .i64 (ps : Nat)]), ((w4.heap.size + 1 + 1), 23, #[.int .i64 c, .int .i64 0]), ((w4.heap.size + 1), 23, #[.int .i64 ym, .int .i64 (ys : Nat)]), (w4.heap.size, 23, #[.int .i64 xm, .int .i64 (xs : Nat)])] : List (Nat × TypeId × Array Value)) ([(w8.heap.size, 23, #[.int .i64 um, .int .i64 (us : Nat)]), (w7.heap.size, 23, #[.int .i64 xm, .int .i64 (xs : Nat)]), (w6.heap.size, 23, #[.int .i64 pm, .int .i64 (ps : Nat)]), (w5.heap.size, 23, #[.int .i64 pm, .int .i64 (ps : Nat)]), ((w4.heap.size + 1 + 1), 23, #[.int .i64 c, .int .i64 0]), ((w4.heap.size + 1), 23, #[.int .i64 ym, .int .i64 (ys : Nat)]), (w4.heap.size, 23, #[.int .i64 xm, .int .i64 (xs : Nat)])] : List (Nat × TypeId × Array Value)))) (E := (fun _ _ => True)) [] [(2, Is (.int .i32 c)), (11, Is (.pointer (some ⟨w4.heap.size, 0, none⟩))), (12, Is (.pointer (some ⟨(w4.heap.size + 1), 0, none⟩))), (13, Is (.pointer (some ⟨(w4.heap.size + 1 + 1), 0, none⟩))), (18, Is (.pointer (some ⟨w7.heap.size, 0, none⟩))), (20, Is (.pointer (some ⟨w8.heap.size, 0, none⟩))), (19, Is (.int .i64 0)), (21, Is (.int .i64 0))] [(80, Is (.int .i64 0)), (81, Is (.int .i64 0)), (82, Is (.int .i64 0)), (83, Is (.bool false)), (84, Is (.bool false)), (85, Is (.agg #[.int .i64 xm, .int .i64 (xs : Nat)])), (86, Is (.agg #[.int .i64 xm, .int .i64 (xs : Nat)])), (87, Is (.bool false)), (88, Is (.bool false)), (89, Is (.bool false)), (90, Is (.agg #[.int .i64 xm, .int .i64 (xs : Nat)])), (91, Is (.agg #[.int .i64 ym, .int .i64 (ys : Nat)])), (92, Is (.int .i64 X)), (93, Is (.agg #[.int .i64 um, .int .i64 (us : Nat)])), (94, Is (.agg #[.int .i64 0, .int .i64 0])), (95, Is (.int .i64 X)), (96, Is (.bool false)), (97, Is (.bool false)), (98, Is (.bool false)), (99, Is (.agg #[.int .i64 xm, .int .i64 (xs : Nat)])), (100, Is (.agg #[.int .i64 ym, .int .i64 (ys : Nat)])), (101, Is (.int .i64 X)), (102, Is (.agg #[.int .i64 ym, .int .i64 (ys : Nat)])), (103, Is (.agg #[.int .i64 xm, .int .i64 (xs : Nat)])), (104, Is (.int .i64 X2)), (105, Is (.int .i64 X)), (106, Is (.bool false)), (107, Is (.bool false))]
    [.op [19] none, .op [21] none, .op [80, 81] none, .op [82] none, .op [83] none, .op [18, 84] (some (84, false)), .op [11, 84] (some (84, false)), .op [85, 86, 84] (some (84, false)), .op [84, 87] none, .op [88] none, .op [11, 89] (some (89, false)), .op [12, 89] (some (89, false)), .op [90, 91, 89] (some (89, false)), .op [20, 89] (some (89, false)), .op [89] (some (89, false)), .op [93, 94, 89] (some (89, false)), .op [92, 95, 89] (some (89, false)), .op [89, 96] none, .op [97] none, .op [11, 98] (some (98, false)), .op [12, 98] (some (98, false)), .op [99, 100, 98] (some (98, false)), .op [12, 98] (some (98, false)), .op [11, 98] (some (98, false)), .op [102, 103, 98] (some (98, false)), .op [104, 98] (some (98, false)), .op [101, 105, 98] (some (98, false)), .op [98, 106] none] (by as_aux_lemma => kernel_rfl) ?_ ?_ ?_ ?_ ?_ ⟨stable_is _ _, stable_is _ _, stable_is _ _, stable_is _ _, stable_is _ _, stable_is _ _, stable_is _ _, stable_is _ _, stable_is _ _, stable_is _ _, stable_is _ _, stable_is _ _, stable_is _ _, stable_is _ _, stable_is _ _, stable_is _ _, stable_is _ _, stable_is _ _, stable_is _ _, stable_is _ _, stable_is _ _, stable_is _ _, stable_is _ _, stable_is _ _, stable_is _ _, stable_is _ _, stable_is _ _, stable_is _ _, stable_is _ _, stable_is _ _, stable_is _ _, stable_is _ _, stable_is _ _, stable_is _ _, stable_is _ _, stable_is _ _, trivial⟩ ?_ (HB.out.drew) ?_ ?_
  · as_aux_lemma => kernel_rfl
  · as_aux_lemma => kernel_rfl
  · as_aux_lemma => kernel_rfl
  · as_aux_lemma => kernel_rfl
  · as_aux_lemma => kernel_rfl
  · exact ⟨rfl, rfl, rfl, rfl, rfl, rfl, rfl, rfl, trivial⟩
  · refine ⟨?_, ?_, ?_, ?_, ?_, ?_, ?_, ?_, ?_, ?_, ?_, ?_, ?_, ?_, ?_, ?_, ?_, ?_, ?_, ?_, ?_, ?_, ?_, ?_, ?_, ?_, ?_, ?_, trivial⟩
    · as_aux_lemma =>
        intro vals a W hS hL
        have e19 : a.tmps.getD 19 undef = .int .i64 0 := hL.1
        clear hL
        go_simp
        exact ⟨⟨fun d hd => by injection hd with hd; subst hd; rfl, fun h => by cases h⟩, hS, trivial⟩
    · as_aux_lemma =>
        intro vals a W hS hL
        have e21 : a.tmps.getD 21 undef = .int .i64 0 := hL.1
        clear hL
        go_simp
        exact ⟨⟨fun d hd => by injection hd with hd; subst hd; rfl, fun h => by cases h⟩, hS, trivial⟩
    · as_aux_lemma =>
        intro vals a W hS hL
        have e80 : a.tmps.getD 80 undef = .int .i64 0 := hL.1
        have e81 : a.tmps.getD 81 undef = .int .i64 0 := hL.2.1
        clear hL
        go_simp
        exact ⟨⟨fun d hd => by injection hd with hd; subst hd; rfl, fun h => by cases h⟩, hS, trivial⟩
    · as_aux_lemma =>
        intro vals a W hS hL
        have e82 : a.tmps.getD 82 undef = .int .i64 0 := hL.1
        clear hL
        go_simp
        exact ⟨⟨fun d hd => by injection hd with hd; subst hd; rfl, fun h => by cases h⟩, hS, trivial⟩
    · as_aux_lemma =>
        intro vals a W hS hL
        have e83 : a.tmps.getD 83 undef = .bool false := hL.1
        clear hL
        go_simp
        exact ⟨⟨fun d hd => by injection hd with hd; subst hd; rfl, fun h => by cases h⟩, hS, trivial⟩
    · as_aux_lemma =>
        intro vals a W hS hL
        have e18 : a.tmps.getD 18 undef = .pointer (some ⟨w7.heap.size, 0, none⟩) := hL.1
        have e84 : a.tmps.getD 84 undef = .bool false := hL.2.1
        clear hL
        refine ⟨false, e84, ?_⟩
        rw [if_pos rfl]
        have kb : Bk W w7.heap.size 23 #[.int .i64 xm, .int .i64 (xs : Nat)] := hS.bk (.tail _ (.head _)) (.tail _ (.head _))
        have f0 := kb.cell 0
        have f1 := kb.cell 1
        clear kb
        go_simp
        exact ⟨⟨fun d hd => by injection hd with hd; subst hd; rfl, fun h => by cases h⟩, hS, trivial⟩
    · as_aux_lemma =>
        intro vals a W hS hL
        have e11 : a.tmps.getD 11 undef = .pointer (some ⟨w4.heap.size, 0, none⟩) := hL.1
        have e84 : a.tmps.getD 84 undef = .bool false := hL.2.1
        clear hL
        refine ⟨false, e84, ?_⟩
        rw [if_pos rfl]
        have kb : Bk W w4.heap.size 23 #[.int .i64 xm, .int .i64 (xs : Nat)] := hS.bk (.tail _ (.tail _ (.tail _ (.tail _ (.tail _ (.tail _ (.head _))))))) (.tail _ (.tail _ (.tail _ (.tail _ (.tail _ (.tail _ (.head _)))))))
        have f0 := kb.cell 0
        have f1 := kb.cell 1
        clear kb
        go_simp
        exact ⟨⟨fun d hd => by injection hd with hd; subst hd; rfl, fun h => by cases h⟩, hS, trivial⟩
    · as_aux_lemma =>
        intro vals a W hS hL
        have e85 : a.tmps.getD 85 undef = .agg #[.int .i64 xm, .int .i64 (xs : Nat)] := hL.1
        have e86 : a.tmps.getD 86 undef = .agg #[.int .i64 xm, .int .i64 (xs : Nat)] := hL.2.1
        have e84 : a.tmps.getD 84 undef = .bool false := hL.2.2.1
        clear hL
        refine ⟨false, e84, ?_⟩
        rw [if_pos rfl]
        go_simp
        exact ⟨⟨fun d hd => by injection hd with hd; subst hd; rfl, fun h => by cases h⟩, hS, trivial⟩
    · as_aux_lemma =>
        intro vals a W hS hL
        have e84 : a.tmps.getD 84 undef = .bool false := hL.1
        have e87 : a.tmps.getD 87 undef = .bool false := hL.2.1
        clear hL
        go_simp
        exact ⟨⟨fun d hd => by injection hd with hd; subst hd; rfl, fun h => by cases h⟩, hS, trivial⟩
    · as_aux_lemma =>
        intro vals a W hS hL
        have e88 : a.tmps.getD 88 undef = .bool false := hL.1
        clear hL
        go_simp
        exact ⟨⟨fun d hd => by injection hd with hd; subst hd; rfl, fun h => by cases h⟩, hS, trivial⟩
    · as_aux_lemma =>
        intro vals a W hS hL
        have e11 : a.tmps.getD 11 undef = .pointer (some ⟨w4.heap.size, 0, none⟩) := hL.1
        have e89 : a.tmps.getD 89 undef = .bool false := hL.2.1
        clear hL
        refine ⟨false, e89, ?_⟩
        rw [if_pos rfl]
        have kb : Bk W w4.heap.size 23 #[.int .i64 xm, .int .i64 (xs : Nat)] := hS.bk (.tail _ (.tail _ (.tail _ (.tail _ (.tail _ (.tail _ (.head _))))))) (.tail _ (.tail _ (.tail _ (.tail _ (.tail _ (.tail _ (.head _)))))))
        have f0 := kb.cell 0
        have f1 := kb.cell 1
        clear kb
        go_simp
        exact ⟨⟨fun d hd => by injection hd with hd; subst hd; rfl, fun h => by cases h⟩, hS, trivial⟩
    · as_aux_lemma =>
        intro vals a W hS hL
        have e12 : a.tmps.getD 12 undef = .pointer (some ⟨(w4.heap.size + 1), 0, none⟩) := hL.1
        have e89 : a.tmps.getD 89 undef = .bool false := hL.2.1
        clear hL
        refine ⟨false, e89, ?_⟩
        rw [if_pos rfl]
        have kb : Bk W (w4.heap.size + 1) 23 #[.int .i64 ym, .int .i64 (ys : Nat)] := hS.bk (.tail _ (.tail _ (.tail _ (.tail _ (.tail _ (.head _)))))) (.tail _ (.tail _ (.tail _ (.tail _ (.tail _ (.head _))))))
        have f0 := kb.cell 0
        have f1 := kb.cell 1
        clear kb
        go_simp
        exact ⟨⟨fun d hd => by injection hd with hd; subst hd; rfl, fun h => by cases h⟩, hS, trivial⟩
    · as_aux_lemma =>
        intro vals a W hS hL
        have e90 : a.tmps.getD 90 undef = .agg #[.int .i64 xm, .int .i64 (xs : Nat)] := hL.1
        have e91 : a.tmps.getD 91 undef = .agg #[.int .i64 ym, .int .i64 (ys : Nat)] := hL.2.1
        have e89 : a.tmps.getD 89 undef = .bool false := hL.2.2.1
        clear hL
        refine ⟨false, e89, ?_⟩
        rw [if_pos rfl]
        go_simp
        refine (HXY.out W).mono ?_
        rintro e W' ⟨rfl, hb⟩
        exact ⟨_, rfl, ⟨fun d hd => by injection hd with hd; subst hd; rfl, fun h => by cases h⟩, hS.call hb, trivial⟩
    · as_aux_lemma =>
        intro vals a W hS hL
        have e20 : a.tmps.getD 20 undef = .pointer (some ⟨w8.heap.size, 0, none⟩) := hL.1
        have e89 : a.tmps.getD 89 undef = .bool false := hL.2.1
        clear hL
        refine ⟨false, e89, ?_⟩
        rw [if_pos rfl]
        have kb : Bk W w8.heap.size 23 #[.int .i64 um, .int .i64 (us : Nat)] := hS.bk (.head _) (.head _)
        have f0 := kb.cell 0
        have f1 := kb.cell 1
        clear kb
        go_simp
        exact ⟨⟨fun d hd => by injection hd with hd; subst hd; rfl, fun h => by cases h⟩, hS, trivial⟩
    · as_aux_lemma =>
        intro vals a W hS hL
        have e89 : a.tmps.getD 89 undef = .bool false := hL.1
        clear hL
        refine ⟨false, e89, ?_⟩
        rw [if_pos rfl]
        go_simp
        refine (int_any).mono ?_
        rintro e W' ⟨rfl, hb⟩
        exact ⟨_, rfl, ⟨fun d hd => by injection hd with hd; subst hd; rfl, fun h => by cases h⟩, hS.call hb, trivial⟩
    · as_aux_lemma =>
        intro vals a W hS hL
        have e93 : a.tmps.getD 93 undef = .agg #[.int .i64 um, .int .i64 (us : Nat)] := hL.1
        have e94 : a.tmps.getD 94 undef = .agg #[.int .i64 0, .int .i64 0] := hL.2.1
        have e89 : a.tmps.getD 89 undef = .bool false := hL.2.2.1
        clear hL
        refine ⟨false, e89, ?_⟩
        rw [if_pos rfl]
        go_simp
        refine (HU.out W).mono ?_
        rintro e W' ⟨rfl, hb⟩
        exact ⟨_, rfl, ⟨fun d hd => by injection hd with hd; subst hd; rfl, fun h => by cases h⟩, hS.call hb, trivial⟩
    · as_aux_lemma =>
        intro vals a W hS hL
        have e92 : a.tmps.getD 92 undef = .int .i64 X := hL.1
        have e95 : a.tmps.getD 95 undef = .int .i64 X := hL.2.1
        have e89 : a.tmps.getD 89 undef = .bool false := hL.2.2.1
        clear hL
        refine ⟨false, e89, ?_⟩
        rw [if_pos rfl]
        go_simp
        exact ⟨⟨fun d hd => by injection hd with hd; subst hd; rfl, fun h => by cases h⟩, hS, trivial⟩
    · as_aux_lemma =>
        intro vals a W hS hL
        have e89 : a.tmps.getD 89 undef = .bool false := hL.1
        have e96 : a.tmps.getD 96 undef = .bool false := hL.2.1
        clear hL
        go_simp
        exact ⟨⟨fun d hd => by injection hd with hd; subst hd; rfl, fun h => by cases h⟩, hS, trivial⟩
    · as_aux_lemma =>
        intro vals a W hS hL
        have e97 : a.tmps.getD 97 undef = .bool false := hL.1
        clear hL
        go_simp
        exact ⟨⟨fun d hd => by injection hd with hd; subst hd; rfl, fun h => by cases h⟩, hS, trivial⟩
    · as_aux_lemma =>
        intro vals a W hS hL
        have e11 : a.tmps.getD 11 undef = .pointer (some ⟨w4.heap.size, 0, none⟩) := hL.1
        have e98 : a.tmps.getD 98 undef = .bool false := hL.2.1
        clear hL
        refine ⟨false, e98, ?_⟩
        rw [if_pos rfl]
        have kb : Bk W w4.heap.size 23 #[.int .i64 xm, .int .i64 (xs : Nat)] := hS.bk (.tail _ (.tail _ (.tail _ (.tail _ (.tail _ (.tail _ (.head _))))))) (.tail _ (.tail _ (.tail _ (.tail _ (.tail _ (.tail _ (.head _)))))))
        have f0 := kb.cell 0
        have f1 := kb.cell 1
        clear kb
        go_simp
        exact ⟨⟨fun d hd => by injection hd with hd; subst hd; rfl, fun h => by cases h⟩, hS, trivial⟩
    · as_aux_lemma =>
        intro vals a W hS hL
        have e12 : a.tmps.getD 12 undef = .pointer (some ⟨(w4.heap.size + 1), 0, none⟩) := hL.1
        have e98 : a.tmps.getD 98 undef = .bool false := hL.2.1
        clear hL
        refine ⟨false, e98, ?_⟩
        rw [if_pos rfl]
        have kb : Bk W (w4.heap.size + 1) 23 #[.int .i64 ym, .int .i64 (ys : Nat)] := hS.bk (.tail _ (.tail _ (.tail _ (.tail _ (.tail _ (.head _)))))) (.tail _ (.tail _ (.tail _ (.tail _ (.tail _ (.head _))))))
        have f0 := kb.cell 0
        have f1 := kb.cell 1
        clear kb
        go_simp
        exact ⟨⟨fun d hd => by injection hd with hd; subst hd; rfl, fun h => by cases h⟩, hS, trivial⟩
    · as_aux_lemma =>
        intro vals a W hS hL
        have e99 : a.tmps.getD 99 undef = .agg #[.int .i64 xm, .int .i64 (xs : Nat)] := hL.1
        have e100 : a.tmps.getD 100 undef = .agg #[.int .i64 ym, .int .i64 (ys : Nat)] := hL.2.1
        have e98 : a.tmps.getD 98 undef = .bool false := hL.2.2.1
        clear hL
        refine ⟨false, e98, ?_⟩
        rw [if_pos rfl]
        go_simp
        refine (HXY.out W).mono ?_
        rintro e W' ⟨rfl, hb⟩
        exact ⟨_, rfl, ⟨fun d hd => by injection hd with hd; subst hd; rfl, fun h => by cases h⟩, hS.call hb, trivial⟩
    · as_aux_lemma =>
        intro vals a W hS hL
        have e12 : a.tmps.getD 12 undef = .pointer (some ⟨(w4.heap.size + 1), 0, none⟩) := hL.1
        have e98 : a.tmps.getD 98 undef = .bool false := hL.2.1
        clear hL
        refine ⟨false, e98, ?_⟩
        rw [if_pos rfl]
        have kb : Bk W (w4.heap.size + 1) 23 #[.int .i64 ym, .int .i64 (ys : Nat)] := hS.bk (.tail _ (.tail _ (.tail _ (.tail _ (.tail _ (.head _)))))) (.tail _ (.tail _ (.tail _ (.tail _ (.tail _ (.head _))))))
        have f0 := kb.cell 0
        have f1 := kb.cell 1
        clear kb
        go_simp
        exact ⟨⟨fun d hd => by injection hd with hd; subst hd; rfl, fun h => by cases h⟩, hS, trivial⟩
    · as_aux_lemma =>
        intro vals a W hS hL
        have e11 : a.tmps.getD 11 undef = .pointer (some ⟨w4.heap.size, 0, none⟩) := hL.1
        have e98 : a.tmps.getD 98 undef = .bool false := hL.2.1
        clear hL
        refine ⟨false, e98, ?_⟩
        rw [if_pos rfl]
        have kb : Bk W w4.heap.size 23 #[.int .i64 xm, .int .i64 (xs : Nat)] := hS.bk (.tail _ (.tail _ (.tail _ (.tail _ (.tail _ (.tail _ (.head _))))))) (.tail _ (.tail _ (.tail _ (.tail _ (.tail _ (.tail _ (.head _)))))))
        have f0 := kb.cell 0
        have f1 := kb.cell 1
        clear kb
        go_simp
        exact ⟨⟨fun d hd => by injection hd with hd; subst hd; rfl, fun h => by cases h⟩, hS, trivial⟩
    · as_aux_lemma =>
        intro vals a W hS hL
        have e102 : a.tmps.getD 102 undef = .agg #[.int .i64 ym, .int .i64 (ys : Nat)] := hL.1
        have e103 : a.tmps.getD 103 undef = .agg #[.int .i64 xm, .int .i64 (xs : Nat)] := hL.2.1
        have e98 : a.tmps.getD 98 undef = .bool false := hL.2.2.1
        clear hL
        refine ⟨false, e98, ?_⟩
        rw [if_pos rfl]
        go_simp
        refine (HYX.out W).mono ?_
        rintro e W' ⟨rfl, hb⟩
        exact ⟨_, rfl, ⟨fun d hd => by injection hd with hd; subst hd; rfl, fun h => by cases h⟩, hS.call hb, trivial⟩
    · as_aux_lemma =>
        intro vals a W hS hL
        have e104 : a.tmps.getD 104 undef = .int .i64 X2 := hL.1
        have e98 : a.tmps.getD 98 undef = .bool false := hL.2.1
        clear hL
        refine ⟨false, e98, ?_⟩
        rw [if_pos rfl]
        have hx : IntKind.i64.wrap (-X2) = X := by rw [IntWalk.i64_left]; exact HW.out
        go_simp
        exact ⟨⟨fun d hd => by injection hd with hd; subst hd; rfl, fun h => by cases h⟩, hS, trivial⟩
    · as_aux_lemma =>
        intro vals a W hS hL
        have e101 : a.tmps.getD 101 undef = .int .i64 X := hL.1
        have e105 : a.tmps.getD 105 undef = .int .i64 X := hL.2.1
        have e98 : a.tmps.getD 98 undef = .bool false := hL.2.2.1
        clear hL
        refine ⟨false, e98, ?_⟩
        rw [if_pos rfl]
        go_simp
        exact ⟨⟨fun d hd => by injection hd with hd; subst hd; rfl, fun h => by cases h⟩, hS, trivial⟩
    · as_aux_lemma =>
        intro vals a W hS hL
        have e98 : a.tmps.getD 98 undef = .bool false := hL.1
        have e106 : a.tmps.getD 106 undef = .bool false := hL.2.1
        clear hL
        go_simp
        exact ⟨⟨fun d hd => by injection hd with hd; subst hd; rfl, fun h => by cases h⟩, hS, trivial⟩
  · intro a W' vals hd hsz hT hF hv hP hS
    obtain rfl : vals = [] := List.eq_nil_of_length_eq_zero hv
    have hB : SB w 0 ([(w8.heap.size, 23, #[.int .i64 um, .int .i64 (us : Nat)]), (w7.heap.size, 23, #[.int .i64 xm, .int .i64 (xs : Nat)]), (w6.heap.size, 23, #[.int .i64 pm, .int .i64 (ps : Nat)]), (w5.heap.size, 23, #[.int .i64 pm, .int .i64 (ps : Nat)]), ((w4.heap.size + 1 + 1), 23, #[.int .i64 c, .int .i64 0]), ((w4.heap.size + 1), 23, #[.int .i64 ym, .int .i64 (ys : Nat)]), (w4.heap.size, 23, #[.int .i64 xm, .int .i64 (xs : Nat)])] : List (Nat × TypeId × Array Value)) W' := hS
    clear hS
    have e2 : a.tmps.getD 2 undef = .int .i32 c := hT 2 (by simp)
    have e11 : a.tmps.getD 11 undef = .pointer (some ⟨w4.heap.size, 0, none⟩) := hT 11 (by simp)
    have e13 : a.tmps.getD 13 undef = .pointer (some ⟨(w4.heap.size + 1 + 1), 0, none⟩) := hT 13 (by simp)
    have e107 : a.tmps.getD 107 undef = .bool false := hT 107 (by simp)
    clear hT hF hP
    rw [act_lit 147 a hd hsz]
    simp only [List.range, List.range.loop, List.map, e2, e11, e13, e107]
    clear e2 e11 e13 e107
    have HB2 := Lib.hid hB
    clear hB HB
    have HB := HB2
    clear HB2
    have k3 := HB.out.bk _ (.tail _ (.tail _ (.tail _ (.tail _ (.head _)))))
    have c30 := k3.cell 0
    have c31 := k3.cell 1
    clear k3
    have k1 := HB.out.bk _ (.tail _ (.tail _ (.tail _ (.tail _ (.tail _ (.tail _ (.head _)))))))
    have c10 := k1.cell 0
    have c11 := k1.cell 1
    clear k1
    go_wp2_with fail
    refine (HM.out _).mono ?_
    rintro e w9 ⟨rfl, hb⟩
    have HB2 := Lib.hid ((HB.out.call hb).alloc 23 #[.int .i64 vm, .int .i64 (vs : Nat)])
    clear hb HB
    have HB := HB2
    clear HB2
    clear c30 c31 c10 c11
    have k3 := HB.out.bk _ (.tail _ (.tail _ (.tail _ (.tail _ (.tail _ (.head _))))))
    have c30 := k3.cell 0
    have c31 := k3.cell 1
    clear k3
    have k1 := HB.out.bk _ (.tail _ (.tail _ (.tail _ (.tail _ (.tail _ (.tail _ (.tail _ (.head _))))))))
    have c10 := k1.cell 0
    have c11 := k1.cell 1
    clear k1
    go_wp2_with fail
    refine (HM2.out _).mono ?_
    rintro e w10 ⟨rfl, hb⟩
    have HB2 := Lib.hid ((HB.out.call hb).alloc 23 #[.int .i64 vm, .int .i64 (vs : Nat)])
    clear hb HB
    have HB := HB2
    clear HB2
    clear c30 c31 c10 c11
    have k4 := HB.out.bk _ (List.mem_cons_self ..)
    have c40 := k4.cell 0
    have c41 := k4.cell 1
    clear k4
    have k2 := HB.out.bk _ (.tail _ (.head _))
    have c20 := k2.cell 0
    have c21 := k2.cell 1
    clear k2
    have k3 := HB.out.bk _ (.tail _ (.tail _ (.tail _ (.tail _ (.tail _ (.tail _ (.head _)))))))
    have c30 := k3.cell 0
    have c31 := k3.cell 1
    clear k3
    have k1 := HB.out.bk _ (.tail _ (.tail _ (.tail _ (.tail _ (.tail _ (.tail _ (.tail _ (.tail _ (.head _)))))))))
    have c10 := k1.cell 0
    have c11 := k1.cell 1
    clear k1
    rcases HE.out with rfl | rfl
    · by_cases h0 : c = 0
      · subst h0
        have hbel := Lib.hid HB.out.bel
        clear HB HD HE
        go_wp2
        go_ret
        exact ⟨rfl, hbel.out⟩
      · have hc0 : (c == 0) = false := by simpa using h0
        have HQ := HD.out rfl h0
        clear h0 HD HE
        go_wp2_with fail
        refine (HQ.out _).mono ?_
        rintro e w11 ⟨rfl, hb⟩
        have HB2 := Lib.hid ((HB.out.call hb).alloc 23 #[.int .i64 xm, .int .i64 (xs : Nat)])
        clear hb HB c40 c41 c20 c21 c30 c31 c10 c11
        have HB := HB2
        clear HB2
        have k5 := HB.out.bk _ (List.mem_cons_self ..)
        have c50 := k5.cell 0
        have c51 := k5.cell 1
        clear k5
        have k1 := HB.out.bk _ (.tail _ (.tail _ (.tail _ (.tail _ (.tail _ (.tail _ (.tail _ (.tail _ (.tail _ (.head _))))))))))
        have c10 := k1.cell 0
        have c11 := k1.cell 1
        clear k1
        have hbel := Lib.hid HB.out.bel
        clear HB
        go_wp2
        go_ret
        exact ⟨rfl, hbel.out⟩
    · have hbel := Lib.hid HB.out.bel
      clear HB HD HE
      go_wp2
      go_ret
      exact ⟨rfl, hbel.out⟩
end Go.Proofs.YtfkfgfajdmacbaaDoor
