/- fun's functions of one value by their contracts. Condition: texts are not too long. -/
import Derived.Test.YtngkolcpbgibcaaGreatDoorDr
set_option linter.unusedVariables false
set_option linter.unusedSimpArgs false
namespace Go.Proofs.YtngkolcpbgibcaaGreatDoor
open Go.RowKit
theorem res_ivb {fn : Func} {q0 q1 q2 : Tmp} (h : fn.results = #[.tmp q0, .cell q1 32, .tmp q2]) {tmps : Array Value} {x y : Value} {w W : World} {bs : Bxs} {g i : Nat} {v : VX} (h0 : tmps.getD q0 undef = x) (h2 : tmps.getD q2 undef = y) (H : Hid (BX w bs W)) (hi : bs[i]? = some (g, 32, vc v)) (hp : tmps.getD q1 undef = .pointer (some ⟨g, 0, none⟩)) :
    (results fn tmps).run Tryz.prog W = .ok (.tuple #[x, .agg (vc v).toArray, y]) W := by
  have h0' : tmps[q0]?.getD undef = x := by simpa using h0
  have h2' : tmps[q2]?.getD undef = y := by simpa using h2
  have hp' : tmps[q1]?.getD undef = .pointer (some ⟨g, 0, none⟩) := by simpa using hp
  simp [results, h, h0', h2', hp', asAddr, H.out.load_v i hi]
theorem number_ok {x : VX} (hs : shortX 100000000 x) {m : Int} {s : Nat} (hn : numX x = .ok m s) (W : World) :
    Calls Tryz.prog 109 #[.agg (vc x).toArray] W fun e W' => e = .returned (.tuple #[.agg (dc m s).toArray, .agg (vc .blank).toArray, .bool true]) ∧ Below W.heap.size W W' := by
  have := number_x (w := W) hs; rw [hn] at this; exact this
theorem number_no {x y : VX} (hs : shortX 100000000 x) (hn : numX x = .no y) (W : World) :
    Calls Tryz.prog 109 #[.agg (vc x).toArray] W fun e W' => e = .returned (.tuple #[.agg (dc 0 (0 : Nat)).toArray, .agg (vc y).toArray, .bool false]) ∧ Below W.heap.size W W' := by
  have := number_x (w := W) hs; rw [hn] at this; exact this
theorem truth_yes_ {x : VX} {b : Bool} (hn : truX x = .ok b) (W : World) :
    Calls Tryz.prog 110 #[.agg (vc x).toArray] W fun e W' => e = .returned (.tuple #[.bool b, .agg (vc .blank).toArray, .bool true]) ∧ Below W.heap.size W W' := by
  have := truth_x (w := W) (x := x); rw [hn] at this; exact this
theorem truth_not {x y : VX} (hn : truX x = .no y) (W : World) :
    Calls Tryz.prog 110 #[.agg (vc x).toArray] W fun e W' => e = .returned (.tuple #[.bool false, .agg (vc y).toArray, .bool false]) ∧ Below W.heap.size W W' := by
  have := truth_x (w := W) (x := x); rw [hn] at this; exact this
theorem words_ok {x : VX} (ho : OkX x) {l : List UInt8} (hn : wrdX x = .ok l) {W : World} (HT : Tens W) :
    Calls Tryz.prog 111 #[.agg (vc x).toArray] W fun e W' => e = .returned (.tuple #[sL l, .agg (vc .blank).toArray, .bool true]) ∧ Below W.heap.size W W' := by
  have := words_x HT ho; rw [hn] at this; exact this
theorem words_no {x y : VX} (ho : OkX x) (hn : wrdX x = .no y) {W : World} (HT : Tens W) :
    Calls Tryz.prog 111 #[.agg (vc x).toArray] W fun e W' => e = .returned (.tuple #[.string ⟨#[]⟩, .agg (vc y).toArray, .bool false]) ∧ Below W.heap.size W W' := by
  have := words_x HT ho; rw [hn] at this; exact this
inductive WH where
  | ok (n : Int)
  | no (x : VX)
def whN (least : Int) : NR → WH
  | .ok m s => if s = 0 ∧ least ≤ m then .ok m else .no (.err 15)
  | .no y => .no y
def whX (x : VX) (least : Int) : WH := whN least (numX x)
def whV : WH → Value
  | .ok n => .tuple #[.int .i64 n, .agg (vc .blank).toArray, .bool true]
  | .no x => .tuple #[.int .i64 0, .agg (vc x).toArray, .bool false]
set_option maxRecDepth 20000 in
set_option maxHeartbeats 4000000 in
theorem whole_any {w : World} {x : VX} (hs : shortX 100000000 x) (least : Int) :
    Calls Tryz.prog 117 #[.agg (vc x).toArray, .int .i64 least] w fun e W => e = .returned (whV (whX x least)) ∧ Below w.heap.size w W := by
  have HB := Lib.hid (BX.start w); unfold whX
  cases hn : numX x with
  | no y =>
    have HN := Lib.hid (number_no hs hn); clear hs hn
    show Calls _ _ _ _ fun e W => e = .returned (.tuple #[.int .i64 0, .agg (vc y).toArray, .bool false]) ∧ Below w.heap.size w W
    go_enter Tryz.func117, Tryz.ntmps117
    repeat' (first | ((with_reducible show Oper.wp _ _ _ _ _ _); (first | ((first | refine al_v HB rfl ?_ | refine bx_v HB _ rfl rfl ?_); clear HB; (first | (have _t : Nat := g0; clear _t; intro g1 W HB) | intro g0 W HB); go_simp) | (refine ld_v 1 HB rfl _ rfl rfl ?_; go_simp))) | go_values | go_skip | go_guarded | go_step | go_upon)
    refine (HN.out _).mono ?_; rintro e W1 ⟨rfl, hb⟩; have HB := Lib.hid (HB.out.call hb); clear hb; dsimp only
    repeat' (first | ((with_reducible show Oper.wp _ _ _ _ _ _); (first | ((first | refine al_v HB rfl ?_ | refine al_d HB rfl ?_); clear HB; (first | (have _t : Nat := g2; clear _t; intro g3 W HB) | (have _t : Nat := g1; clear _t; intro g2 W HB)); go_simp) | ((first | refine st_v 0 HB rfl _ _ rfl rfl rfl ?_ | refine st_d 1 HB rfl _ _ rfl rfl rfl ?_); clear HB; intro W HB; dsimp only [List.set] at HB; go_simp))) | go_values | go_skip | go_guarded | go_step | go_upon)
    refine wp_region_phases (S := (SBN w [[(g3, 32, vc y), (g2, 30, dc 0 (0 : Nat)), (g1, 32, vc .blank), (g0, 32, vc x)], [(g3, 32, vc y), (g2, 30, dc 0 (0 : Nat)), (g1, 32, vc y), (g0, 32, vc x)]])) (E := (fun _ _ => True)) [2] [(5, Is (.pointer (some ⟨g1, 0, none⟩))), (8, Is (.pointer (some ⟨g3, 0, none⟩)))] [(19, Is (.agg (vc y).toArray)), (4, Is (.int .i64 0)), (6, Is (.bool false))]
      [.op [8] none, .op [] none, .phase 0 [5, 19] [], .op [] none] (by as_aux_lemma => kernel_rfl) ?_ ?_ ?_ ?_ ?_ ⟨stable_is _ _, stable_is _ _, stable_is _ _, stable_is _ _, stable_is _ _, trivial⟩ ?_ HB.out.drew ?_ ?_
    · as_aux_lemma => kernel_rfl
    · as_aux_lemma => kernel_rfl
    · as_aux_lemma => kernel_rfl
    · as_aux_lemma => kernel_rfl
    · as_aux_lemma => kernel_rfl
    · exact ⟨rfl, rfl, trivial⟩
    · refine ⟨?_, ?_, ?_, ?_, trivial⟩
      · as_aux_lemma => intro vals a W hS hL; have e8 : a.tmps.getD 8 undef = .pointer (some ⟨g3, 0, none⟩) := hL.1; clear hL; refine lands_v (run_ldg rtV (hS.get 0 ⟨rfl, rfl, trivial⟩) (.tmp 8) rfl e8) ?_; exact ⟨dstY (by rfl), hS, trivial⟩
      · as_aux_lemma => intro vals a W hS hL; clear hL; go_simp; exact ⟨dstY (by rfl), hS, trivial⟩
      · as_aux_lemma =>
          intro a W vals hv hS hL hp; have e5 : a.tmps.getD 5 undef = .pointer (some ⟨g1, 0, none⟩) := hL.1; have e19 : a.tmps.getD 19 undef = .agg (vc y).toArray := hL.2.1; clear hL
          match vals, hv, hS with
          | [], _, hS =>
            refine lands_stg (vs := vc y) rtV (vc_one _) (i := 2) (show BX w [(g3, 32, vc y), (g2, 30, dc 0 (0 : Nat)), (g1, 32, vc .blank), (g0, 32, vc x)] W from hS) rfl ((vc_len _).trans (vc_len _).symm) (.tmp 5) (.tmp 19) rfl e5 e19 fun W2 h2 => ?_; exact ⟨h2, trivial, trivial⟩
      · as_aux_lemma => intro vals a W hS hL; clear hL; go_simp; exact ⟨dstY (by rfl), hS, trivial⟩
    · intro a W vals hd hsz hT hF hv hP hS
      obtain ⟨v0, rfl⟩ : ∃ v0, vals = [v0] := by
        match vals, hv with
        | [xv0], _ => exact ⟨xv0, rfl⟩
      have HB : Hid (BX w [(g3, 32, vc y), (g2, 30, dc 0 (0 : Nat)), (g1, 32, vc y), (g0, 32, vc x)] W) := Lib.hid hS; have e5 : a.tmps.getD 5 undef = .pointer (some ⟨g1, 0, none⟩) := hT 5 (by simp); have e8 : a.tmps.getD 8 undef = .pointer (some ⟨g3, 0, none⟩) := hT 8 (by simp); have e4 : a.tmps.getD 4 undef = .int .i64 0 := hT 4 (by simp); have e6 : a.tmps.getD 6 undef = .bool false := hT 6 (by simp); clear hT hF hP hS; rw [act_lit 34 a hd hsz]; simp only [List.range, List.range.loop, List.map, e5, e8, e4, e6]; clear e5 e8 e4 e6 hsz hd; generalize a.tmps.getD 0 undef = y0, a.tmps.getD 1 undef = y1, a.tmps.getD 2 undef = y2, a.tmps.getD 3 undef = y3, a.tmps.getD 7 undef = y7, a.tmps.getD 9 undef = y9, a.tmps.getD 10 undef = y10, a.tmps.getD 11 undef = y11, a.tmps.getD 12 undef = y12, a.tmps.getD 13 undef = y13, a.tmps.getD 14 undef = y14, a.tmps.getD 15 undef = y15, a.tmps.getD 16 undef = y16, a.tmps.getD 17 undef = y17, a.tmps.getD 18 undef = y18, a.tmps.getD 19 undef = y19, a.tmps.getD 20 undef = y20, a.tmps.getD 21 undef = y21, a.tmps.getD 22 undef = y22, a.tmps.getD 23 undef = y23, a.tmps.getD 24 undef = y24, a.tmps.getD 25 undef = y25, a.tmps.getD 26 undef = y26, a.tmps.getD 27 undef = y27, a.tmps.getD 28 undef = y28, a.tmps.getD 29 undef = y29, a.tmps.getD 30 undef = y30, a.tmps.getD 31 undef = y31, a.tmps.getD 32 undef = y32, a.tmps.getD 33 undef = y33
      repeat' (first | go_values | go_skip | go_guarded | go_step | go_upon)
      exact bodyPost_ret (res_ivb rfl rfl rfl HB (i := 2) rfl rfl) rfl ⟨rfl, HB.out.bel⟩
  | ok m s =>
    have HN := Lib.hid (number_ok hs hn); clear hs hn
    by_cases h0 : s = 0
    · subst h0
      by_cases hl : least ≤ m
      · rw [show whN least (.ok m 0) = .ok m from if_pos ⟨rfl, hl⟩]
        show Calls _ _ _ _ fun e W => e = .returned (.tuple #[.int .i64 m, .agg (vc .blank).toArray, .bool true]) ∧ Below w.heap.size w W
        have hlt : ¬ m < least := by omega
        go_enter Tryz.func117, Tryz.ntmps117
        repeat' (first | ((with_reducible show Oper.wp _ _ _ _ _ _); (first | ((first | refine al_v HB rfl ?_ | refine bx_v HB _ rfl rfl ?_); clear HB; (first | (have _t : Nat := g0; clear _t; intro g1 W HB) | intro g0 W HB); go_simp) | (refine ld_v 1 HB rfl _ rfl rfl ?_; go_simp))) | go_values | go_skip | go_guarded | go_step | go_upon)
        refine (HN.out _).mono ?_; rintro e W1 ⟨rfl, hb⟩; have HB := Lib.hid (HB.out.call hb); clear hb; dsimp only
        repeat' (first | ((with_reducible show Oper.wp _ _ _ _ _ _); (first | ((first | refine al_v HB rfl ?_ | refine al_d HB rfl ?_); clear HB; (first | (have _t : Nat := g2; clear _t; intro g3 W HB) | (have _t : Nat := g1; clear _t; intro g2 W HB)); go_simp) | (refine ld_d 1 HB rfl _ rfl rfl ?_; go_simp) | ((first | refine st_v 0 HB rfl _ _ rfl rfl rfl ?_ | refine st_d 1 HB rfl _ _ rfl rfl rfl ?_); clear HB; intro W HB; dsimp only [List.set] at HB; go_simp))) | go_values | go_skip | go_guarded | go_step | go_upon)
        refine (isWhole_any m 0).mono ?_; rintro e W1 ⟨rfl, hb⟩; have HB := Lib.hid (HB.out.call hb); clear hb; dsimp only
        repeat' (first | ((with_reducible show Oper.wp _ _ _ _ _ _); (first | (refine lf_i64 1 HB rfl _ rfl rfl rfl ?_; go_simp) | (apply stop_bd; exact rfl))) | go_values | go_skip | go_guarded | go_step | go_upon)
        refine Lib.hid ?_; refine wp_b (v := .agg (vc .blank).toArray) (by kernel_rfl) ?_; go_simp
        repeat' (first | ((with_reducible show Oper.wp _ _ _ _ _ _); refine st_v 2 HB rfl _ _ rfl rfl rfl ?_; clear HB; intro W HB; dsimp only [List.set] at HB; go_simp) | go_values | go_skip | go_guarded | go_step | go_upon)
        exact bodyPost_ret (res_ivb rfl rfl rfl HB (i := 2) rfl rfl) rfl ⟨rfl, HB.out.bel⟩
      · rw [show whN least (.ok m 0) = .no (.err 15) from if_neg fun h => hl h.2]
        show Calls _ _ _ _ fun e W => e = .returned (.tuple #[.int .i64 0, .agg (vc (.err 15)).toArray, .bool false]) ∧ Below w.heap.size w W
        have hlt : m < least := by omega
        go_enter Tryz.func117, Tryz.ntmps117
        repeat' (first | ((with_reducible show Oper.wp _ _ _ _ _ _); (first | ((first | refine al_v HB rfl ?_ | refine bx_v HB _ rfl rfl ?_); clear HB; (first | (have _t : Nat := g0; clear _t; intro g1 W HB) | intro g0 W HB); go_simp) | (refine ld_v 1 HB rfl _ rfl rfl ?_; go_simp))) | go_values | go_skip | go_guarded | go_step | go_upon)
        refine (HN.out _).mono ?_; rintro e W1 ⟨rfl, hb⟩; have HB := Lib.hid (HB.out.call hb); clear hb; dsimp only
        repeat' (first | ((with_reducible show Oper.wp _ _ _ _ _ _); (first | ((first | refine al_v HB rfl ?_ | refine al_d HB rfl ?_); clear HB; (first | (have _t : Nat := g2; clear _t; intro g3 W HB) | (have _t : Nat := g1; clear _t; intro g2 W HB)); go_simp) | (refine ld_d 1 HB rfl _ rfl rfl ?_; go_simp) | ((first | refine st_v 0 HB rfl _ _ rfl rfl rfl ?_ | refine st_d 1 HB rfl _ _ rfl rfl rfl ?_); clear HB; intro W HB; dsimp only [List.set] at HB; go_simp))) | go_values | go_skip | go_guarded | go_step | go_upon)
        refine (isWhole_any m 0).mono ?_; rintro e W1 ⟨rfl, hb⟩; have HB := Lib.hid (HB.out.call hb); clear hb; dsimp only
        repeat' (first | ((with_reducible show Oper.wp _ _ _ _ _ _); refine lf_i64 1 HB rfl _ rfl rfl rfl ?_; go_simp) | go_values | go_skip | go_guarded | go_step | go_upon)
        refine (fFault 15).mono ?_; rintro e W1 ⟨rfl, hb⟩; have HB := Lib.hid (HB.out.call hb); clear hb; dsimp only
        repeat' (first | ((with_reducible show Oper.wp _ _ _ _ _ _); refine st_v 2 HB rfl _ _ rfl rfl rfl ?_; clear HB; intro W HB; dsimp only [List.set] at HB; go_simp) | go_values | go_skip | go_guarded | go_step | go_upon)
        exact bodyPost_ret (res_ivb rfl rfl rfl HB (i := 2) rfl rfl) rfl ⟨rfl, HB.out.bel⟩
    · rw [show whN least (.ok m s) = .no (.err 15) from if_neg fun h => h0 h.1]
      show Calls _ _ _ _ fun e W => e = .returned (.tuple #[.int .i64 0, .agg (vc (.err 15)).toArray, .bool false]) ∧ Below w.heap.size w W
      have HW : Hid (∀ W : World, Calls Tryz.prog 175 #[.agg (dc m s).toArray] W fun e W' => e = .returned (.bool false) ∧ Below W.heap.size W W') := Lib.hid fun W => by
        have := isWhole_any (w := W) m s
        rwa [decide_eq_false h0] at this
      clear h0; go_enter Tryz.func117, Tryz.ntmps117
      repeat' (first | ((with_reducible show Oper.wp _ _ _ _ _ _); (first | ((first | refine al_v HB rfl ?_ | refine bx_v HB _ rfl rfl ?_); clear HB; (first | (have _t : Nat := g0; clear _t; intro g1 W HB) | intro g0 W HB); go_simp) | (refine ld_v 1 HB rfl _ rfl rfl ?_; go_simp))) | go_values | go_skip | go_guarded | go_step | go_upon)
      refine (HN.out _).mono ?_; rintro e W1 ⟨rfl, hb⟩; have HB := Lib.hid (HB.out.call hb); clear hb; dsimp only
      repeat' (first | ((with_reducible show Oper.wp _ _ _ _ _ _); (first | ((first | refine al_v HB rfl ?_ | refine al_d HB rfl ?_); clear HB; (first | (have _t : Nat := g2; clear _t; intro g3 W HB) | (have _t : Nat := g1; clear _t; intro g2 W HB)); go_simp) | (refine ld_d 1 HB rfl _ rfl rfl ?_; go_simp) | ((first | refine st_v 0 HB rfl _ _ rfl rfl rfl ?_ | refine st_d 1 HB rfl _ _ rfl rfl rfl ?_); clear HB; intro W HB; dsimp only [List.set] at HB; go_simp))) | go_values | go_skip | go_guarded | go_step | go_upon)
      refine (HW.out _).mono ?_; rintro e W1 ⟨rfl, hb⟩; have HB := Lib.hid (HB.out.call hb); clear hb; dsimp only
      repeat' (first | go_values | go_skip | go_guarded | go_step | go_upon)
      refine (fFault 15).mono ?_; rintro e W1 ⟨rfl, hb⟩; have HB := Lib.hid (HB.out.call hb); clear hb; dsimp only
      repeat' (first | ((with_reducible show Oper.wp _ _ _ _ _ _); refine st_v 2 HB rfl _ _ rfl rfl rfl ?_; clear HB; intro W HB; dsimp only [List.set] at HB; go_simp) | go_values | go_skip | go_guarded | go_step | go_upon)
      exact bodyPost_ret (res_ivb rfl rfl rfl HB (i := 2) rfl rfl) rfl ⟨rfl, HB.out.bel⟩
end Go.Proofs.YtngkolcpbgibcaaGreatDoor
