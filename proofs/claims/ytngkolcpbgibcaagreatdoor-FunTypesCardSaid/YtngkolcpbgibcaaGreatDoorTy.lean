/- cashbooklaw11.FunTypes by its contract: it returns true. Condition: the tables are laid. -/
import Derived.Test.YtngkolcpbgibcaaGreatDoorTy1
set_option linter.unusedVariables false
set_option linter.unusedSimpArgs false
namespace Go.Proofs.YtngkolcpbgibcaaGreatDoor
open Go.RowKit
set_option maxRecDepth 20000 in
set_option maxHeartbeats 16000000 in
theorem types_good {w : World} (HFn : FnT w) (HTn : Tens w) (HVl : Val w) {x : VX} (px : PG x) (hs : (stX x).size ≤ 1000) (HK : ∀ W : World, Below w.heap.size w W → Calls Tryz.prog 17 #[.agg (vc x).toArray] W fun e w' => e = .returned (.int .i64 0) ∧ Below W.heap.size W w') (n : Nat) (hn : n < 256) :
    Calls Tryz.prog 10 #[.agg (vc x).toArray, .int .u8 n] w fun e W => e = .returned (.bool true) ∧ Below w.heap.size w W := by
  have HN := Lib.hid (fun (W : World) (hb : Below w.heap.size w W) => known_any (HFn.below hb) (HTn.below hb) (HVl.below hb)); have HF := Lib.hid HFn; have HP := Lib.hid px; have HC := Lib.hid HK; have HB := Lib.hid (BX.start w); have h' : ¬ (1000 : Int) < (((stX x).size : Nat) : Int) := by omega
  clear HFn HTn HVl HK hs px; go_enter Tryz.func10, Tryz.ntmps10
  repeat' (first | ((with_reducible show Oper.wp _ _ _ _ _ _); refine bx_v HB _ rfl rfl ?_; clear HB; intro g0 W HB; go_simp) | go_values | go_skip | go_guarded | go_step | go_upon)
  refine (HN.out _ HB.out.bel).mono ?_; rintro e W1 ⟨rfl, hb⟩; have HB := Lib.hid (HB.out.call hb); clear hb; dsimp only; have c3 : W1.cell? ⟨g0, 3, none⟩ = some (.string (stX x)) := (HB.out.cell (i := 0) rfl 3).trans (vc_str x)
  repeat' (first | ((with_reducible show Oper.wp _ _ _ _ _ _); refine ld_v 0 HB rfl _ rfl rfl ?_; go_simp) | go_values | go_skip | go_guarded | go_step | go_upon)
  clear c3; refine (HC.out _ HB.out.bel).mono ?_; rintro e W1 ⟨rfl, hb⟩; have HB := Lib.hid (HB.out.call hb); clear hb; dsimp only
  repeat' (first | ((with_reducible show Oper.wp _ _ _ _ _ _); refine ld_v 0 HB rfl _ rfl rfl ?_; go_simp) | go_values | go_skip | go_guarded | go_step | go_upon)
  refine (fOne_any x).mono ?_; rintro e W2 ⟨g1, hg, rfl, hbk, hb⟩; have HB := Lib.hid (HB.out.one hg hbk hb); clear hg hbk hb; dsimp only
  repeat' (first | ((with_reducible show Oper.wp _ _ _ _ _ _); apply stop_bs; exact rfl) | go_values | go_skip | go_guarded | go_step | go_upon)
  refine Lib.hid ?_; refine bs_a HB _ rfl rfl ?_; clear HB; intro g2 W HB; go_simp
  repeat' (first | ((with_reducible show Oper.wp _ _ _ _ _ _); apply stop_bs; exact rfl) | go_values | go_skip | go_guarded | go_step | go_upon)
  refine Lib.hid ?_; refine bs_g (e := 2) (n := 5) HB (([1, 1, 2, 4, 16] : List Int).map (Value.int .i64)) (by kernel_rfl) ?_; clear HB; intro g3 W _ HB; go_simp
  repeat' (first | ((with_reducible show Oper.wp _ _ _ _ _ _); apply stop_ms; exact rfl) | go_values | go_skip | go_guarded | go_step | go_upon)
  rw [show (5 + (n : Int) % 25) = ((5 + n % 25 : Nat) : Int) by omega]; obtain ⟨p, hp⟩ : ∃ p, p = 5 + n % 25 := ⟨_, rfl⟩
  have p0 : 5 ≤ p := by omega
  have p1 : p < 30 := by omega
  rw [← hp]; clear hp hn; refine Lib.hid ?_; refine ms_a HB rfl ?_; clear HB; intro q W cs hcs HB; have HM : Hid (MX W q x cs 0) := Lib.hid ⟨hcs, fun i hi => by omega⟩; clear hcs; go_simp
  repeat' (first | go_values | go_skip | go_guarded | go_step | go_upon)
  go_loopw [9] (fun i wr => ∃ (k : Nat) (cs : List Value), k ≤ 31 ∧ i = .int .i64 k ∧ Hid (BX w [(q, 55, cs), (g3, 2, ([1, 1, 2, 4, 16] : List Int).map (Value.int .i64)), (g2, 55, ac false (some ⟨g1, 0, none⟩) 1 1), (g1, 32, vc x), (g0, 32, vc x)] wr) ∧ Hid (MX wr q x cs k)) (fun i _ => 31 - (intOf i).toNat)
  case atStart => exact ⟨0, cs, Nat.zero_le _, rfl, HB, HM⟩
  case round =>
    clear HB HM; obtain ⟨k, cs, hk, rfl, HB, HM⟩ := hrel
    by_cases hlt : k < 31
    · have hlt' : (k : Int) < 31 := by omega
      have hk0 : (0 : Int) ≤ (k : Int) := by omega
      repeat' (first | ((with_reducible show Oper.wp _ _ _ _ _ _); refine ld_v 4 HB rfl _ rfl rfl ?_; go_simp) | go_values | go_skip | go_guarded | go_step | go_upon)
      have hq : q < wr.heap.size := (HB.out.get (i := 0) rfl).lt; refine (fOne_any x).mono ?_; rintro e W2 ⟨g4, hg, rfl, hbk, hb⟩; have HM := Lib.hid (HM.out.below hb); have hne : g4 ≠ q := by omega
      have HB := Lib.hid (HB.out.one hg hbk hb); clear hg hbk hb; dsimp only
      repeat' (first | ((with_reducible show Oper.wp _ _ _ _ _ _); apply stop_st; exact rfl) | go_values | go_skip | go_guarded | go_step | go_upon)
      refine Lib.hid ?_; refine st_am 1 k HB rfl (by have := HM.out.1; omega) _ _ rfl rfl rfl ?_; intro W3 hB3 hK3; have HM3 := Lib.hid (HM.out.put hlt hne (HB.out.get (i := 0) rfl) hK3); dsimp only [List.set] at hB3; have HB3 := Lib.hid hB3.out.drop1; clear hB3 hK3 HB HM hne hq; go_simp
      repeat' (first | go_values | go_skip | go_guarded | go_step | go_upon)
      go_roundw
      case rel => exact ⟨k + 1, _, by omega, by go_num, HB3, HM3⟩
      case measure => simp [intOf]; omega
    · obtain rfl : k = 31 := by omega
      have HR := Lib.hid (HM.out.row (HB.out.get (i := 0) rfl)); clear HM
      go_upto_region 13 with fail
      go_cut [64] from 41 (fun sx wx => sx = .bool false ∧ Hid (BX w [(q, 55, cs), (g3, 2, ([1, 1, 2, 4, 16] : List Int).map (Value.int .i64)), (g2, 55, ac false (some ⟨g1, 0, none⟩) 1 1), (g1, 32, vc x), (g0, 32, vc x)] wx) ∧ Hid (RowF argF wx (· < wx.heap.size) (some ⟨q, 0, none⟩) 31 (List.replicate 31 (false, [x]))))
      case first =>
        by_cases c1 : p = 11 ∨ p = 12 ∨ p = 18 ∨ p = 25 ∨ p = 28
        · rcases c1 with rfl | rfl | rfl | rfl | rfl
          all_goals
            repeat' (first | go_values | go_skip | go_guarded | go_step | go_upon)
            go_meet; exact ⟨rfl, HB, HR⟩
        · have b11 : (((p : Nat) : Int) != 11) = true := by rw [bne_iff_ne]; omega
          have b12 : (((p : Nat) : Int) != 12) = true := by rw [bne_iff_ne]; omega
          have b18 : (((p : Nat) : Int) != 18) = true := by rw [bne_iff_ne]; omega
          have b25 : (((p : Nat) : Int) != 25) = true := by rw [bne_iff_ne]; omega
          have b28 : (((p : Nat) : Int) != 28) = true := by rw [bne_iff_ne]; omega
          repeat' (first | go_values | go_skip | go_guarded | go_step | go_upon)
          refine Calls.mono (ap_no (HF.out.below HB.out.bel) (op := (p : Int)) (args := []) (RowF.nil _ _ _ none) (ag_of (by simp) (by simp)) (none_no p0 p1 (by omega) (by omega) (by omega) (by omega) (by omega))) ?_; rintro e W1 ⟨rfl, hb⟩; have HR := Lib.hid (row_up HR.out hb); have HB := Lib.hid (HB.out.call hb); clear hb; dsimp only
          repeat' (first | go_values | go_skip | go_guarded | go_step | go_upon)
          refine (fFault 15).mono ?_; rintro e W1 ⟨rfl, hb⟩; have HR := Lib.hid (row_up HR.out hb); have HB := Lib.hid (HB.out.call hb); clear hb; dsimp only; simp only [vc]
          repeat' (first | go_values | go_skip | go_guarded | go_step | go_upon)
          go_meet; exact ⟨rfl, HB, HR⟩
      case rest =>
        clear HB HR; obtain ⟨rfl, HB, HR⟩ := hcut
        go_upto_region 15 with fail
        go_cut [85] from 65 (fun sx wx => sx = .bool false ∧ Hid (BX w [(q, 55, cs), (g3, 2, ([1, 1, 2, 4, 16] : List Int).map (Value.int .i64)), (g2, 55, ac false (some ⟨g1, 0, none⟩) 1 1), (g1, 32, vc x), (g0, 32, vc x)] wx) ∧ Hid (RowF argF wx (· < wx.heap.size) (some ⟨q, 0, none⟩) 31 (List.replicate 31 (false, [x]))))
        case first =>
          by_cases c1 : p = 11 ∨ p = 12 ∨ p = 18 ∨ p = 25
          · rcases c1 with rfl | rfl | rfl | rfl
            all_goals
              repeat' (first | go_values | go_skip | go_guarded | go_step | go_upon)
              go_meet; exact ⟨rfl, HB, HR⟩
          · have b11 : (((p : Nat) : Int) != 11) = true := by rw [bne_iff_ne]; omega
            have b12 : (((p : Nat) : Int) != 12) = true := by rw [bne_iff_ne]; omega
            have b18 : (((p : Nat) : Int) != 18) = true := by rw [bne_iff_ne]; omega
            have b25 : (((p : Nat) : Int) != 25) = true := by rw [bne_iff_ne]; omega
            repeat' (first | go_values | go_skip | go_guarded | go_step | go_upon)
            refine Calls.mono (ap_no (HF.out.below HB.out.bel) (op := (p : Int)) (args := List.replicate 31 (false, [x])) (by rw [List.length_replicate]; exact HR.out) (ag_many (by decide) HP.out) (many_no (by simp) p0 p1 (by omega) (by omega) (by omega) (by omega))) ?_; rintro e W1 ⟨rfl, hb⟩; have HR := Lib.hid (row_up HR.out hb); have HB := Lib.hid (HB.out.call hb); clear hb; dsimp only
            repeat' (first | go_values | go_skip | go_guarded | go_step | go_upon)
            refine (fFault 15).mono ?_; rintro e W1 ⟨rfl, hb⟩; have HR := Lib.hid (row_up HR.out hb); have HB := Lib.hid (HB.out.call hb); clear hb; dsimp only; simp only [vc]
            repeat' (first | go_values | go_skip | go_guarded | go_step | go_upon)
            go_meet; exact ⟨rfl, HB, HR⟩
        case rest =>
          clear HB HR; obtain ⟨rfl, HB, HR⟩ := hcut; obtain ⟨K, hKK, hK5⟩ := kind_nat x; have HKK := Lib.hid hKK; have HK5 := Lib.hid hK5
          have HY : Hid ((∀ W, BX w [(q, 55, cs), (g3, 2, ([1, 1, 2, 4, 16] : List Int).map (Value.int .i64)), (g2, 55, ac false (some ⟨g1, 0, none⟩) 1 1), (g1, 32, vc x), (g0, 32, vc x)] W → Ap W 29 (some ⟨g2, 0, none⟩) 1 1 (.num (wantT K) 0)) ∧ (∀ W, BX w [(q, 55, cs), (g3, 2, ([1, 1, 2, 4, 16] : List Int).map (Value.int .i64)), (g2, 55, ac false (some ⟨g1, 0, none⟩) 1 1), (g1, 32, vc x), (g0, 32, vc x)] W → Ap W 21 (some ⟨g2, 0, none⟩) 1 1 (.bool ((K : Int) == 0))) ∧ (∀ W, BX w [(q, 55, cs), (g3, 2, ([1, 1, 2, 4, 16] : List Int).map (Value.int .i64)), (g2, 55, ac false (some ⟨g1, 0, none⟩) 1 1), (g1, 32, vc x), (g0, 32, vc x)] W → Ap W 22 (some ⟨g2, 0, none⟩) 1 1 (.bool ((K : Int) == 4)))) := Lib.hid (by
            rw [← hKK]
            exact ⟨fun W hS => ty_29 (HF.out.below hS.bel) (one_row (hS.get (i := 3) rfl) (hS.get (i := 2) rfl)) HP.out, fun W hS => ty_21 (HF.out.below hS.bel) (one_row (hS.get (i := 3) rfl) (hS.get (i := 2) rfl)) HP.out, fun W hS => ty_22 (HF.out.below hS.bel) (one_row (hS.get (i := 3) rfl) (hS.get (i := 2) rfl)) HP.out⟩)
          clear hKK hK5 HR HN HC HP HF p0 p1
          go_upto_region 17 with fail
          refine wp_region_phases (S := (fun _ W => BX w [(q, 55, cs), (g3, 2, ([1, 1, 2, 4, 16] : List Int).map (Value.int .i64)), (g2, 55, ac false (some ⟨g1, 0, none⟩) 1 1), (g1, 32, vc x), (g0, 32, vc x)] W)) (E := (fun W W' => Below W.heap.size W W')) [] [(2, Is (.pointer (some ⟨g0, 0, none⟩))), (5, Is (.slice (some ⟨g2, 0, none⟩) 1 1)), (6, Is (.slice (some ⟨g3, 0, none⟩) 5 5))] [(86, Is (.slice (some ⟨g2, 0, none⟩) 1 1)), (87, Is (.agg (vc (.num (wantT K) 0)).toArray)), (88, Is (.slice (some ⟨g3, 0, none⟩) 5 5)), (89, Is (.pointer (some ⟨g0, 0, none⟩))), (90, Is (.int .i64 (K : Int))), (91, Is (.pointer (some ⟨g3, K, none⟩))), (92, Is (.int .i64 (wantT K))), (93, Is (.agg (vc (.num (wantT K) 0)).toArray)), (94, Is (.bool true)), (95, Is (.bool true)), (96, Is (.slice (some ⟨g2, 0, none⟩) 1 1)), (97, Is (.agg (vc (.bool ((K : Int) == 0))).toArray)), (98, Is (.pointer (some ⟨g0, 0, none⟩))), (99, Is (.int .i64 (K : Int))), (100, Is (.bool ((K : Int) == 0))), (101, Is (.agg (vc (.bool ((K : Int) == 0))).toArray)), (102, Is (.bool true)), (103, Is (.bool true)), (104, Is (.bool true)), (105, Is (.slice (some ⟨g2, 0, none⟩) 1 1)), (106, Is (.agg (vc (.bool ((K : Int) == 4))).toArray)), (107, Is (.pointer (some ⟨g0, 0, none⟩))), (108, Is (.int .i64 (K : Int))), (109, Is (.bool ((K : Int) == 4))), (110, Is (.agg (vc (.bool ((K : Int) == 4))).toArray)), (111, Is (.bool true)), (112, Is (.bool true)), (4, Is (.bool true))]
            [.op [5] none, .op [86] none, .op [6] none, .op [2] none, .op [89] none, .op [88, 90] none, .op [91] none, .op [92] none, .op [87, 93] none, .op [94] none, .op [5, 95] (some (95, true)), .op [96, 95] (some (95, true)), .op [2, 95] (some (95, true)), .op [98, 95] (some (95, true)), .op [99, 95] (some (95, true)), .op [100, 95] (some (95, true)), .op [97, 101, 95] (some (95, true)), .op [95, 102] none, .op [103] none, .op [5, 104] (some (104, true)), .op [105, 104] (some (104, true)), .op [2, 104] (some (104, true)), .op [107, 104] (some (104, true)), .op [108, 104] (some (104, true)), .op [109, 104] (some (104, true)), .op [106, 110, 104] (some (104, true)), .op [104, 111] none, .op [112] none] (by as_aux_lemma => kernel_rfl) ?_ ?_ ?_ ?_ ?_ ⟨stable_is _ _, stable_is _ _, stable_is _ _, stable_is _ _, stable_is _ _, stable_is _ _, stable_is _ _, stable_is _ _, stable_is _ _, stable_is _ _, stable_is _ _, stable_is _ _, stable_is _ _, stable_is _ _, stable_is _ _, stable_is _ _, stable_is _ _, stable_is _ _, stable_is _ _, stable_is _ _, stable_is _ _, stable_is _ _, stable_is _ _, stable_is _ _, stable_is _ _, stable_is _ _, stable_is _ _, stable_is _ _, stable_is _ _, stable_is _ _, stable_is _ _, trivial⟩ ?_ HB.out.drew ?_ ?_
          · as_aux_lemma => kernel_rfl
          · as_aux_lemma => kernel_rfl
          · as_aux_lemma => kernel_rfl
          · as_aux_lemma => kernel_rfl
          · as_aux_lemma => kernel_rfl
          · exact ⟨rfl, rfl, rfl, trivial⟩
          · refine ⟨?_, ?_, ?_, ?_, ?_, ?_, ?_, ?_, ?_, ?_, ?_, ?_, ?_, ?_, ?_, ?_, ?_, ?_, ?_, ?_, ?_, ?_, ?_, ?_, ?_, ?_, ?_, ?_, trivial⟩
            · as_aux_lemma =>
                intro vals a W hS hL; have e5 : a.tmps.getD 5 undef = .slice (some ⟨g2, 0, none⟩) 1 1 := hL.1; clear hL; go_simp; exact ⟨⟨fun d hd => by injection hd with hd; subst hd; rfl, fun h => by cases h⟩, hS, (Below.refl _ _)⟩
            · as_aux_lemma =>
                intro vals a W hS hL; have e86 : a.tmps.getD 86 undef = .slice (some ⟨g2, 0, none⟩) 1 1 := hL.1; clear hL; go_simp; refine Calls.mono (HY.out.1 W hS) ?_; rintro e W2 ⟨rfl, hb⟩; exact ⟨_, rfl, ⟨fun d hd => by injection hd with hd; subst hd; rfl, fun h => by cases h⟩, hS.call hb, hb⟩
            · as_aux_lemma =>
                intro vals a W hS hL; have e6 : a.tmps.getD 6 undef = .slice (some ⟨g3, 0, none⟩) 5 5 := hL.1; clear hL; go_simp; exact ⟨⟨fun d hd => by injection hd with hd; subst hd; rfl, fun h => by cases h⟩, hS, (Below.refl _ _)⟩
            · as_aux_lemma =>
                intro vals a W hS hL; have e2 : a.tmps.getD 2 undef = .pointer (some ⟨g0, 0, none⟩) := hL.1; clear hL; go_simp; exact ⟨⟨fun d hd => by injection hd with hd; subst hd; rfl, fun h => by cases h⟩, hS, (Below.refl _ _)⟩
            · as_aux_lemma =>
                intro vals a W hS hL; have e89 : a.tmps.getD 89 undef = .pointer (some ⟨g0, 0, none⟩) := hL.1; clear hL; have f := (hS.cell (i := 4) rfl 0).trans ((vc_kind x).trans (by rw [HKK.out])); go_simp; exact ⟨⟨fun d hd => by injection hd with hd; subst hd; rfl, fun h => by cases h⟩, hS, (Below.refl _ _)⟩
            · as_aux_lemma =>
                intro vals a W hS hL; have e88 : a.tmps.getD 88 undef = .slice (some ⟨g3, 0, none⟩) 5 5 := hL.1; have e90 : a.tmps.getD 90 undef = .int .i64 (K : Int) := hL.2.1; clear hL; have k5 := HK5.out; have k6 : (K : Int) < 5 := by omega
                have k0 : (0 : Int) ≤ (K : Int) := by omega
                go_simp; exact ⟨⟨fun d hd => by injection hd with hd; subst hd; rfl, fun h => by cases h⟩, hS, (Below.refl _ _)⟩
            · as_aux_lemma =>
                intro vals a W hS hL; have e91 : a.tmps.getD 91 undef = .pointer (some ⟨g3, K, none⟩) := hL.1; clear hL; have f := (hS.cell (i := 1) rfl K).trans (want_at HK5.out); go_simp; exact ⟨⟨fun d hd => by injection hd with hd; subst hd; rfl, fun h => by cases h⟩, hS, (Below.refl _ _)⟩
            · as_aux_lemma =>
                intro vals a W hS hL; have e92 : a.tmps.getD 92 undef = .int .i64 (wantT K) := hL.1; clear hL; go_simp; refine (lN_x (w := W) (wantT K)).mono ?_; rintro e W2 ⟨rfl, hb⟩; exact ⟨_, rfl, ⟨fun d hd => by injection hd with hd; subst hd; rfl, fun h => by cases h⟩, hS.call hb, hb⟩
            · as_aux_lemma =>
                intro vals a W hS hL; have e87 : a.tmps.getD 87 undef = .agg (vc (.num (wantT K) 0)).toArray := hL.1; have e93 : a.tmps.getD 93 undef = .agg (vc (.num (wantT K) 0)).toArray := hL.2.1; clear hL; refine lands_v (run_eq32 (v := (.num (wantT K) 0)) rfl e87 e93) ?_; exact ⟨⟨fun d hd => by injection hd with hd; subst hd; rfl, fun h => by cases h⟩, hS, Below.refl _ _⟩
            · as_aux_lemma =>
                intro vals a W hS hL; have e94 : a.tmps.getD 94 undef = .bool true := hL.1; clear hL; go_simp; exact ⟨⟨fun d hd => by injection hd with hd; subst hd; rfl, fun h => by cases h⟩, hS, (Below.refl _ _)⟩
            · as_aux_lemma =>
                intro vals a W hS hL; have e5 : a.tmps.getD 5 undef = .slice (some ⟨g2, 0, none⟩) 1 1 := hL.1; have e95 : a.tmps.getD 95 undef = .bool true := hL.2.1; clear hL; refine ⟨true, e95, ?_⟩; rw [if_pos rfl]; go_simp; exact ⟨⟨fun d hd => by injection hd with hd; subst hd; rfl, fun h => by cases h⟩, hS, (Below.refl _ _)⟩
            · as_aux_lemma =>
                intro vals a W hS hL; have e96 : a.tmps.getD 96 undef = .slice (some ⟨g2, 0, none⟩) 1 1 := hL.1; have e95 : a.tmps.getD 95 undef = .bool true := hL.2.1; clear hL; refine ⟨true, e95, ?_⟩; rw [if_pos rfl]; go_simp; refine Calls.mono (HY.out.2.1 W hS) ?_; rintro e W2 ⟨rfl, hb⟩; exact ⟨_, rfl, ⟨fun d hd => by injection hd with hd; subst hd; rfl, fun h => by cases h⟩, hS.call hb, hb⟩
            · as_aux_lemma =>
                intro vals a W hS hL; have e2 : a.tmps.getD 2 undef = .pointer (some ⟨g0, 0, none⟩) := hL.1; have e95 : a.tmps.getD 95 undef = .bool true := hL.2.1; clear hL; refine ⟨true, e95, ?_⟩; rw [if_pos rfl]; go_simp; exact ⟨⟨fun d hd => by injection hd with hd; subst hd; rfl, fun h => by cases h⟩, hS, (Below.refl _ _)⟩
            · as_aux_lemma =>
                intro vals a W hS hL; have e98 : a.tmps.getD 98 undef = .pointer (some ⟨g0, 0, none⟩) := hL.1; have e95 : a.tmps.getD 95 undef = .bool true := hL.2.1; clear hL; refine ⟨true, e95, ?_⟩; rw [if_pos rfl]; have f := (hS.cell (i := 4) rfl 0).trans ((vc_kind x).trans (by rw [HKK.out])); go_simp; exact ⟨⟨fun d hd => by injection hd with hd; subst hd; rfl, fun h => by cases h⟩, hS, (Below.refl _ _)⟩
            · as_aux_lemma =>
                intro vals a W hS hL; have e99 : a.tmps.getD 99 undef = .int .i64 (K : Int) := hL.1; have e95 : a.tmps.getD 95 undef = .bool true := hL.2.1; clear hL; refine ⟨true, e95, ?_⟩; rw [if_pos rfl]; go_simp; exact ⟨⟨fun d hd => by injection hd with hd; subst hd; rfl, fun h => by cases h⟩, hS, (Below.refl _ _)⟩
            · as_aux_lemma =>
                intro vals a W hS hL; have e100 : a.tmps.getD 100 undef = .bool ((K : Int) == 0) := hL.1; have e95 : a.tmps.getD 95 undef = .bool true := hL.2.1; clear hL; refine ⟨true, e95, ?_⟩; rw [if_pos rfl]; refine lands_v (run_bb rfl e100) ?_; exact ⟨⟨fun d hd => by injection hd with hd; subst hd; rfl, fun h => by cases h⟩, hS, Below.refl _ _⟩
            · as_aux_lemma =>
                intro vals a W hS hL; have e97 : a.tmps.getD 97 undef = .agg (vc (.bool ((K : Int) == 0))).toArray := hL.1; have e101 : a.tmps.getD 101 undef = .agg (vc (.bool ((K : Int) == 0))).toArray := hL.2.1; have e95 : a.tmps.getD 95 undef = .bool true := hL.2.2.1; clear hL; refine ⟨true, e95, ?_⟩; rw [if_pos rfl]; refine lands_v (run_eq32 (v := (.bool ((K : Int) == 0))) rfl e97 e101) ?_; exact ⟨⟨fun d hd => by injection hd with hd; subst hd; rfl, fun h => by cases h⟩, hS, Below.refl _ _⟩
            · as_aux_lemma =>
                intro vals a W hS hL; have e95 : a.tmps.getD 95 undef = .bool true := hL.1; have e102 : a.tmps.getD 102 undef = .bool true := hL.2.1; clear hL; go_simp; exact ⟨⟨fun d hd => by injection hd with hd; subst hd; rfl, fun h => by cases h⟩, hS, (Below.refl _ _)⟩
            · as_aux_lemma =>
                intro vals a W hS hL; have e103 : a.tmps.getD 103 undef = .bool true := hL.1; clear hL; go_simp; exact ⟨⟨fun d hd => by injection hd with hd; subst hd; rfl, fun h => by cases h⟩, hS, (Below.refl _ _)⟩
            · as_aux_lemma =>
                intro vals a W hS hL; have e5 : a.tmps.getD 5 undef = .slice (some ⟨g2, 0, none⟩) 1 1 := hL.1; have e104 : a.tmps.getD 104 undef = .bool true := hL.2.1; clear hL; refine ⟨true, e104, ?_⟩; rw [if_pos rfl]; go_simp; exact ⟨⟨fun d hd => by injection hd with hd; subst hd; rfl, fun h => by cases h⟩, hS, (Below.refl _ _)⟩
            · as_aux_lemma =>
                intro vals a W hS hL; have e105 : a.tmps.getD 105 undef = .slice (some ⟨g2, 0, none⟩) 1 1 := hL.1; have e104 : a.tmps.getD 104 undef = .bool true := hL.2.1; clear hL; refine ⟨true, e104, ?_⟩; rw [if_pos rfl]; go_simp; refine Calls.mono (HY.out.2.2 W hS) ?_; rintro e W2 ⟨rfl, hb⟩; exact ⟨_, rfl, ⟨fun d hd => by injection hd with hd; subst hd; rfl, fun h => by cases h⟩, hS.call hb, hb⟩
            · as_aux_lemma =>
                intro vals a W hS hL; have e2 : a.tmps.getD 2 undef = .pointer (some ⟨g0, 0, none⟩) := hL.1; have e104 : a.tmps.getD 104 undef = .bool true := hL.2.1; clear hL; refine ⟨true, e104, ?_⟩; rw [if_pos rfl]; go_simp; exact ⟨⟨fun d hd => by injection hd with hd; subst hd; rfl, fun h => by cases h⟩, hS, (Below.refl _ _)⟩
            · as_aux_lemma =>
                intro vals a W hS hL; have e107 : a.tmps.getD 107 undef = .pointer (some ⟨g0, 0, none⟩) := hL.1; have e104 : a.tmps.getD 104 undef = .bool true := hL.2.1; clear hL; refine ⟨true, e104, ?_⟩; rw [if_pos rfl]; have f := (hS.cell (i := 4) rfl 0).trans ((vc_kind x).trans (by rw [HKK.out])); go_simp; exact ⟨⟨fun d hd => by injection hd with hd; subst hd; rfl, fun h => by cases h⟩, hS, (Below.refl _ _)⟩
            · as_aux_lemma =>
                intro vals a W hS hL; have e108 : a.tmps.getD 108 undef = .int .i64 (K : Int) := hL.1; have e104 : a.tmps.getD 104 undef = .bool true := hL.2.1; clear hL; refine ⟨true, e104, ?_⟩; rw [if_pos rfl]; go_simp; exact ⟨⟨fun d hd => by injection hd with hd; subst hd; rfl, fun h => by cases h⟩, hS, (Below.refl _ _)⟩
            · as_aux_lemma =>
                intro vals a W hS hL; have e109 : a.tmps.getD 109 undef = .bool ((K : Int) == 4) := hL.1; have e104 : a.tmps.getD 104 undef = .bool true := hL.2.1; clear hL; refine ⟨true, e104, ?_⟩; rw [if_pos rfl]; refine lands_v (run_bb rfl e109) ?_; exact ⟨⟨fun d hd => by injection hd with hd; subst hd; rfl, fun h => by cases h⟩, hS, Below.refl _ _⟩
            · as_aux_lemma =>
                intro vals a W hS hL; have e106 : a.tmps.getD 106 undef = .agg (vc (.bool ((K : Int) == 4))).toArray := hL.1; have e110 : a.tmps.getD 110 undef = .agg (vc (.bool ((K : Int) == 4))).toArray := hL.2.1; have e104 : a.tmps.getD 104 undef = .bool true := hL.2.2.1; clear hL; refine ⟨true, e104, ?_⟩; rw [if_pos rfl]; refine lands_v (run_eq32 (v := (.bool ((K : Int) == 4))) rfl e106 e110) ?_; exact ⟨⟨fun d hd => by injection hd with hd; subst hd; rfl, fun h => by cases h⟩, hS, Below.refl _ _⟩
            · as_aux_lemma =>
                intro vals a W hS hL; have e104 : a.tmps.getD 104 undef = .bool true := hL.1; have e111 : a.tmps.getD 111 undef = .bool true := hL.2.1; clear hL; go_simp; exact ⟨⟨fun d hd => by injection hd with hd; subst hd; rfl, fun h => by cases h⟩, hS, (Below.refl _ _)⟩
            · as_aux_lemma =>
                intro vals a W hS hL; have e112 : a.tmps.getD 112 undef = .bool true := hL.1; clear hL; go_simp; exact ⟨⟨fun d hd => by injection hd with hd; subst hd; rfl, fun h => by cases h⟩, hS, (Below.refl _ _)⟩
          · intro a W vals hd hsz hT hF hv hP hS; have HB : Hid (BX w [(q, 55, cs), (g3, 2, ([1, 1, 2, 4, 16] : List Int).map (Value.int .i64)), (g2, 55, ac false (some ⟨g1, 0, none⟩) 1 1), (g1, 32, vc x), (g0, 32, vc x)] W) := Lib.hid hS; have e4 : a.tmps.getD 4 undef = .bool true := hT 4 (by simp); clear hT hF hP hS
            repeat' (first | go_values | go_skip | go_guarded | go_step | go_upon)
            refine bodyPost_ret (results_tmp rfl _ _ _) hd ⟨?_, HB.out.bel⟩; rw [e4]
end Go.Proofs.YtngkolcpbgibcaaGreatDoor
