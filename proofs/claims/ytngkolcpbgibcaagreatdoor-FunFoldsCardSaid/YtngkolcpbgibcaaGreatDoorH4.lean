/- fun.takes of all other functions, by its contract. Condition: the table is laid. -/
import Derived.Test.YtngkolcpbgibcaaGreatDoorH2
set_option linter.unusedVariables false
set_option linter.unusedSimpArgs false
namespace Go.Proofs.YtngkolcpbgibcaaGreatDoor
open Go.RowKit
set_option maxRecDepth 20000 in
set_option maxHeartbeats 8000000 in
theorem takes_all_w {w : World} {n : Nat} {lo hi : Int} (c1 : w.cell? ⟨0, n * 3 + 1, none⟩ = some (.int .i64 lo)) (c2 : w.cell? ⟨0, n * 3 + 2, none⟩ = some (.int .i64 hi))
    (HI : Hid (∀ W : World, Calls Tryz.prog 81 #[.int .i64 n] W fun e W' => e = .returned (.bool true) ∧ W' = W)) (hn1 : (n : Int) < 30) {A : Option Addr} {c : Nat} {args : List (Bool × List VX)} (hn : args.length ≤ 1000000) (h : RowF argF w (· < w.heap.size) A args.length args) (hlo : ¬ (args.length : Int) < lo) (hhi : ¬ hi < (args.length : Int)) (h10 : ¬ n = 10) (h23 : ¬ n = 23) (h25 : ¬ n = 25) (h24 : ¬ n = 24) :
    Calls Tryz.prog 40 #[.int .i64 n, .slice A args.length c] w fun e W => e = .returned (.bool (args.all (okA (n : Int)))) ∧ Below w.heap.size w W := by
  have hn0 : (0 : Int) ≤ (n : Int) := by omega
  have hn2 : n < 30 := by omega
  have HB := Lib.hid (BX.start w); have h10' : ((n : Int) == 10) = false := by rw [beq_eq_false_iff_ne]; omega
  have h23' : ((n : Int) == 23) = false := by rw [beq_eq_false_iff_ne]; omega
  have h25' : ((n : Int) == 25) = false := by rw [beq_eq_false_iff_ne]; omega
  have h24' : ((n : Int) == 24) = false := by rw [beq_eq_false_iff_ne]; omega
  have HM := Lib.hid (fun W : World => isOfMany_any (w := W) (n : Int)); have HK : Hid (okA (n : Int) = fun a => oneB a.1 a.2.length || (a.1 && manyB (n : Int))) := Lib.hid rfl; generalize okA (n : Int) = ok at *; generalize manyB (n : Int) = mb at *; clear h24 h10 h23 h25; go_enter Tryz.func40, Tryz.ntmps40
  repeat' (first | go_values | go_skip | go_guarded | go_step | go_upon)
  refine (HI.out _).mono ?_; rintro e W1 ⟨rfl, hw⟩; have hw := hw.symm; subst hw; dsimp only
  repeat' (first | ((with_reducible show Oper.wp _ _ _ _ _ _); refine stop_ld (ty := 3) _ rfl ?_) | go_values | go_skip | go_guarded | go_step | go_upon)
  refine Lib.hid ?_; refine lfm_int _ rfl rfl c1 ?_; go_simp
  repeat' (first | ((with_reducible show Oper.wp _ _ _ _ _ _); refine stop_ld (ty := 3) _ rfl ?_) | go_values | go_skip | go_guarded | go_step | go_upon)
  refine Lib.hid ?_; refine lfm_int _ rfl rfl c2 ?_; go_simp
  repeat' (first | go_values | go_skip | go_guarded | go_step | go_upon)
  clear c1 c2 HI
  go_loopw [51] (fun i wr => ∃ j : Nat, j ≤ args.length ∧ i = .int .i64 j ∧ (args.take j).all ok = true ∧ Hid (BX w [] wr)) (fun i _ => args.length - (intOf i).toNat)
  case atStart => exact ⟨0, Nat.zero_le _, rfl, by simp, HB⟩
  case round =>
    clear HB; obtain ⟨j, hj, rfl, ht, HB⟩ := hrel
    by_cases hlt : j < args.length
    · have hlt' : (j : Int) < (args.length : Int) := by omega
      have hj0 : (0 : Int) ≤ (j : Int) := by omega
      obtain ⟨⟨b, vs⟩, hx⟩ : ∃ x, args[j]? = some x := ⟨_, List.getElem?_eq_getElem hlt⟩
      obtain ⟨aa, rfl, hall⟩ := args_all h (by omega); obtain ⟨A1, c4, hA⟩ := hall j _ hx; have HA := Lib.hid hA; have HT := Lib.hid ht; have HX := Lib.hid hx; clear hall hA ht hx
      cases ho : oneB b vs.length with
      | true =>
        have HO : Hid (∀ W : World, Calls Tryz.prog 102 #[.agg (ac b A1 vs.length c4).toArray] W fun e W' => e = .returned (.bool true) ∧ Below W.heap.size W W') := Lib.hid fun W => by
          have := isOne_any (w := W) b A1 vs.length c4
          rwa [ho] at this
        have HP : Hid (ok (b, vs) = true) := Lib.hid (by rw [HK.out]; simp [ho])
        repeat' (first | ((with_reducible show Oper.wp _ _ _ _ _ _); refine stop_ld (ty := 55) _ rfl ?_) | go_values | go_skip | go_guarded | go_step | go_upon)
        refine Lib.hid ?_; refine ldm_a b A1 vs.length c4 _ rfl rfl (HA.out.below HB.out.bel).cell ?_; go_simp
        repeat' (first | ((with_reducible show Oper.wp _ _ _ _ _ _); (first | (refine al_a HB rfl ?_; clear HB; intro g0 W HB; go_simp) | (refine ld_a 0 HB rfl _ rfl rfl ?_; go_simp) | (refine st_a 0 HB rfl _ _ rfl rfl rfl ?_; clear HB; intro W HB; dsimp only [List.set] at HB; go_simp))) | go_values | go_skip | go_guarded | go_step | go_upon)
        refine (HO.out _).mono ?_; rintro e W1 ⟨rfl, hb⟩; have HB := Lib.hid (HB.out.call hb); clear hb; dsimp only
        repeat' (first | go_values | go_skip | go_guarded | go_step | go_upon)
        have HB := Lib.hid (HB.out.some_ (List.nil_sublist _))
        go_roundw
        case rel => exact ⟨j + 1, by omega, by go_num, all_step HX.out HT.out HP.out, HB⟩
        case measure => simp [intOf]; omega
      | false =>
        have HO : Hid (∀ W : World, Calls Tryz.prog 102 #[.agg (ac b A1 vs.length c4).toArray] W fun e W' => e = .returned (.bool false) ∧ Below W.heap.size W W') := Lib.hid fun W => by
          have := isOne_any (w := W) b A1 vs.length c4
          rwa [ho] at this
        cases b with
        | false =>
          have HP : Hid (args.all ok = false) := Lib.hid (all_stop HX.out (by rw [HK.out]; simp [ho]))
          repeat' (first | ((with_reducible show Oper.wp _ _ _ _ _ _); refine stop_ld (ty := 55) _ rfl ?_) | go_values | go_skip | go_guarded | go_step | go_upon)
          refine Lib.hid ?_; refine ldm_a false A1 vs.length c4 _ rfl rfl (HA.out.below HB.out.bel).cell ?_; go_simp
          repeat' (first | ((with_reducible show Oper.wp _ _ _ _ _ _); (first | (refine al_a HB rfl ?_; clear HB; intro g0 W HB; go_simp) | (refine ld_a 0 HB rfl _ rfl rfl ?_; go_simp) | (refine st_a 0 HB rfl _ _ rfl rfl rfl ?_; clear HB; intro W HB; dsimp only [List.set] at HB; go_simp))) | go_values | go_skip | go_guarded | go_step | go_upon)
          refine (HO.out _).mono ?_; rintro e W1 ⟨rfl, hb⟩; have HB := Lib.hid (HB.out.call hb); clear hb; dsimp only
          repeat' (first | ((with_reducible show Oper.wp _ _ _ _ _ _); refine lf_bool 0 HB rfl _ rfl rfl rfl ?_; go_simp) | go_values | go_skip | go_guarded | go_step | go_upon)
          go_ret; exact ⟨by rw [HP.out]; rfl, HB.out.bel⟩
        | true =>
          cases hm : mb with
          | true =>
            rw [hm] at HM; have HP : Hid (ok (true, vs) = true) := Lib.hid (by rw [HK.out, hm]; rfl); clear hm HK
            repeat' (first | ((with_reducible show Oper.wp _ _ _ _ _ _); refine stop_ld (ty := 55) _ rfl ?_) | go_values | go_skip | go_guarded | go_step | go_upon)
            refine Lib.hid ?_; refine ldm_a true A1 vs.length c4 _ rfl rfl (HA.out.below HB.out.bel).cell ?_; go_simp
            repeat' (first | ((with_reducible show Oper.wp _ _ _ _ _ _); (first | (refine al_a HB rfl ?_; clear HB; intro g0 W HB; go_simp) | (refine ld_a 0 HB rfl _ rfl rfl ?_; go_simp) | (refine st_a 0 HB rfl _ _ rfl rfl rfl ?_; clear HB; intro W HB; dsimp only [List.set] at HB; go_simp))) | go_values | go_skip | go_guarded | go_step | go_upon)
            refine (HO.out _).mono ?_; rintro e W1 ⟨rfl, hb⟩; have HB := Lib.hid (HB.out.call hb); clear hb; dsimp only
            repeat' (first | ((with_reducible show Oper.wp _ _ _ _ _ _); refine lf_bool 0 HB rfl _ rfl rfl rfl ?_; go_simp) | go_values | go_skip | go_guarded | go_step | go_upon)
            refine (HM.out _).mono ?_; rintro e W2 ⟨rfl, hw⟩; have hw := hw.symm; subst hw; dsimp only
            repeat' (first | go_values | go_skip | go_guarded | go_step | go_upon)
            have HB := Lib.hid (HB.out.some_ (List.nil_sublist _))
            go_roundw
            case rel => exact ⟨j + 1, by omega, by go_num, all_step HX.out HT.out HP.out, HB⟩
            case measure => simp [intOf]; omega
          | false =>
            rw [hm] at HM; have HP : Hid (args.all ok = false) := Lib.hid (all_stop HX.out (by rw [HK.out, hm]; simp [ho])); clear hm HK
            repeat' (first | ((with_reducible show Oper.wp _ _ _ _ _ _); refine stop_ld (ty := 55) _ rfl ?_) | go_values | go_skip | go_guarded | go_step | go_upon)
            refine Lib.hid ?_; refine ldm_a true A1 vs.length c4 _ rfl rfl (HA.out.below HB.out.bel).cell ?_; go_simp
            repeat' (first | ((with_reducible show Oper.wp _ _ _ _ _ _); (first | (refine al_a HB rfl ?_; clear HB; intro g0 W HB; go_simp) | (refine ld_a 0 HB rfl _ rfl rfl ?_; go_simp) | (refine st_a 0 HB rfl _ _ rfl rfl rfl ?_; clear HB; intro W HB; dsimp only [List.set] at HB; go_simp))) | go_values | go_skip | go_guarded | go_step | go_upon)
            refine (HO.out _).mono ?_; rintro e W1 ⟨rfl, hb⟩; have HB := Lib.hid (HB.out.call hb); clear hb; dsimp only
            repeat' (first | ((with_reducible show Oper.wp _ _ _ _ _ _); refine lf_bool 0 HB rfl _ rfl rfl rfl ?_; go_simp) | go_values | go_skip | go_guarded | go_step | go_upon)
            refine (HM.out _).mono ?_; rintro e W2 ⟨rfl, hw⟩; have hw := hw.symm; subst hw; dsimp only
            repeat' (first | go_values | go_skip | go_guarded | go_step | go_upon)
            go_ret; exact ⟨by rw [HP.out]; rfl, HB.out.bel⟩
    · obtain rfl : j = args.length := by omega
      rw [List.take_length] at ht; have HT := Lib.hid ht; clear ht
      repeat' (first | go_values | go_skip | go_guarded | go_step | go_upon)
      go_ret; exact ⟨by rw [HT.out]; rfl, HB.out.bel⟩
end Go.Proofs.YtngkolcpbgibcaaGreatDoor
