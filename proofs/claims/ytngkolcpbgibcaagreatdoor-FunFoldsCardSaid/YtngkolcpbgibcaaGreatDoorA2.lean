/- fun.Apply by its contract, by what it calls (two). Condition: what it calls keeps its contract. -/
import Derived.Test.YtngkolcpbgibcaaGreatDoorH5
import Derived.Test.YtngkolcpbgibcaaGreatDoorPhI
set_option linter.unusedVariables false
set_option linter.unusedSimpArgs false
namespace Go.Proofs.YtngkolcpbgibcaaGreatDoor
open Go.RowKit
theorem run_lfv {o : Oper} {a : Act} {W : World} {q : Addr} {u : Value} (x : Operand) (ho : o.op = .load 53 x) (hx : a.eval x = .pointer (some q)) (c : W.cell? q = some u) : (execOp a.eval o).run Tryz.prog W = .ok (.value u) W := by
  unfold execOp; rw [ho]; simp only [hx]; clear ho hx; go_simp
set_option maxRecDepth 20000 in
set_option maxHeartbeats 8000000 in
theorem apply_10 {w : World} {A : Option Addr} {n c : Nat} {r : VX} (HTk : ∀ W, Below w.heap.size w W → Calls Tryz.prog 40 #[.int .i64 10, .slice A n c] W fun e W' => e = .returned (.bool true) ∧ Below W.heap.size W W')
    (HC : ∀ W, Below w.heap.size w W → Calls Tryz.prog 46 #[.slice A n c] W fun e W' => e = .returned (.agg (vc r).toArray) ∧ Below W.heap.size W W') :
    Calls Tryz.prog 14 #[.int .i64 10, .slice A n c] w fun e W => e = .returned (.agg (vc r).toArray) ∧ Below w.heap.size w W := by
  have HT := Lib.hid HTk; have HC := Lib.hid HC; have HB := Lib.hid (BX.start w); clear HTk; go_enter Tryz.func14, Tryz.ntmps14
  repeat' (first | ((with_reducible show Oper.wp _ _ _ _ _ _); refine al_v HB rfl ?_; clear HB; intro g0 W HB; go_simp) | go_values | go_skip | go_guarded | go_step | go_upon)
  refine (HT.out _ HB.out.bel).mono ?_; rintro e W1 ⟨rfl, hb⟩; have HB := Lib.hid (HB.out.call hb); clear hb; dsimp only
  repeat' (first | go_values | go_skip | go_guarded | go_step | go_upon)
  refine (HC.out _ HB.out.bel).mono ?_; rintro e W1 ⟨rfl, hb⟩; have HB := Lib.hid (HB.out.call hb); clear hb; dsimp only
  repeat' (first | ((with_reducible show Oper.wp _ _ _ _ _ _); refine st_v 0 HB rfl _ _ rfl rfl rfl ?_; clear HB; intro W HB; dsimp only [List.set] at HB; go_simp) | go_values | go_skip | go_guarded | go_step | go_upon)
  exact bodyPost_ret (res_v rfl HB (i := 0) rfl rfl) rfl ⟨rfl, HB.out.bel⟩
set_option maxRecDepth 20000 in
set_option maxHeartbeats 8000000 in
theorem apply_24 {w : World} {aa a2 : Addr} {A1 : Option Addr} {c c1 c2 : Nat} {l : List VX} {y r : VX} (HTk : ∀ W, Below w.heap.size w W → Calls Tryz.prog 40 #[.int .i64 24, .slice (some aa) 2 c] W fun e W' => e = .returned (.bool true) ∧ Below W.heap.size W W')
    (h0 : ∀ W, Below w.heap.size w W → W.cell? ((aa.add (0 * 2)).add 1) = some (.slice A1 l.length c1)) (h1 : ∀ W, Below w.heap.size w W → W.cell? ((aa.add (1 * 2)).add 1) = some (.slice (some a2) 1 c2)) (h2 : ∀ W, Below w.heap.size w W → ∀ (j : Nat) (u : Value), (vc y)[j]? = some u → W.cell? ((a2.add (0 * 6)).add j) = some u)
    (HC : ∀ W, Below w.heap.size w W → Calls Tryz.prog 49 #[.slice A1 l.length c1, .agg (vc y).toArray] W fun e W' => e = .returned (.agg (vc r).toArray) ∧ Below W.heap.size W W') :
    Calls Tryz.prog 14 #[.int .i64 24, .slice (some aa) 2 c] w fun e W => e = .returned (.agg (vc r).toArray) ∧ Below w.heap.size w W := by
  have HT := Lib.hid HTk; have HC := Lib.hid HC; have HX0 := Lib.hid h0; have HX1 := Lib.hid h1; have HX2 := Lib.hid h2; have HB := Lib.hid (BX.start w); clear HTk h0 h1 h2; go_enter Tryz.func14, Tryz.ntmps14
  repeat' (first | ((with_reducible show Oper.wp _ _ _ _ _ _); refine al_v HB rfl ?_; clear HB; intro g0 W HB; go_simp) | go_values | go_skip | go_guarded | go_step | go_upon)
  refine (HT.out _ HB.out.bel).mono ?_; rintro e W1 ⟨rfl, hb⟩; have HB := Lib.hid (HB.out.call hb); clear hb; dsimp only
  repeat' (first | go_values | go_skip | go_guarded | go_step | go_upon)
  refine wp_region_phases (S := (SBN w [[(g0, 32, vc .blank)], [(g0, 32, vc r)]])) (E := (fun _ _ => True)) [11] [(4, Is (.pointer (some ⟨g0, 0, none⟩))), (1, Is (.slice (some aa) 2 c))] [(53, Is (.slice (some aa) 2 c)), (54, Is (.pointer (some (aa.add (0 * 2))))), (55, Is (.pointer (some ((aa.add (0 * 2)).add 1)))), (56, Is (.slice A1 l.length c1)), (57, Is (.slice (some aa) 2 c)), (58, Is (.pointer (some (aa.add (1 * 2))))), (59, Is (.pointer (some ((aa.add (1 * 2)).add 1)))), (60, Is (.slice (some a2) 1 c2)), (61, Is (.pointer (some (a2.add (0 * 6))))), (62, Is (.agg (vc y).toArray)), (63, Is (.agg (vc r).toArray))]
    [.op [1] none, .op [53] none, .op [54] none, .op [55] none, .op [1] none, .op [57] none, .op [58] none, .op [59] none, .op [60] none, .op [61] none, .op [56, 62] none, .phase 0 [4, 63] []] (by as_aux_lemma => kernel_rfl) ?_ ?_ ?_ ?_ ?_ ⟨stable_is _ _, stable_is _ _, stable_is _ _, stable_is _ _, stable_is _ _, stable_is _ _, stable_is _ _, stable_is _ _, stable_is _ _, stable_is _ _, stable_is _ _, stable_is _ _, stable_is _ _, trivial⟩ ?_ HB.out.drew ?_ ?_
  · as_aux_lemma => kernel_rfl
  · as_aux_lemma => kernel_rfl
  · as_aux_lemma => kernel_rfl
  · as_aux_lemma => kernel_rfl
  · as_aux_lemma => kernel_rfl
  · exact ⟨rfl, rfl, trivial⟩
  · refine ⟨?_, ?_, ?_, ?_, ?_, ?_, ?_, ?_, ?_, ?_, ?_, ?_, trivial⟩
    · as_aux_lemma => intro vals a W hS hL; have e1 : a.tmps.getD 1 undef = .slice (some aa) 2 c := hL.1; clear hL; go_simp; exact ⟨dstY (by rfl), hS, trivial⟩
    · as_aux_lemma => intro vals a W hS hL; have e53 : a.tmps.getD 53 undef = .slice (some aa) 2 c := hL.1; clear hL; go_simp; exact ⟨dstY (by rfl), hS, trivial⟩
    · as_aux_lemma => intro vals a W hS hL; have e54 : a.tmps.getD 54 undef = .pointer (some (aa.add (0 * 2))) := hL.1; clear hL; go_simp; exact ⟨dstY (by rfl), hS, trivial⟩
    · as_aux_lemma => intro vals a W hS hL; have e55 : a.tmps.getD 55 undef = .pointer (some ((aa.add (0 * 2)).add 1)) := hL.1; clear hL; refine lands_v (run_lfv (.tmp 55) rfl e55 (HX0.out W (SBN.bel hS))) ?_; exact ⟨dstY (by rfl), hS, trivial⟩
    · as_aux_lemma => intro vals a W hS hL; have e1 : a.tmps.getD 1 undef = .slice (some aa) 2 c := hL.1; clear hL; go_simp; exact ⟨dstY (by rfl), hS, trivial⟩
    · as_aux_lemma => intro vals a W hS hL; have e57 : a.tmps.getD 57 undef = .slice (some aa) 2 c := hL.1; clear hL; go_simp; exact ⟨dstY (by rfl), hS, trivial⟩
    · as_aux_lemma => intro vals a W hS hL; have e58 : a.tmps.getD 58 undef = .pointer (some (aa.add (1 * 2))) := hL.1; clear hL; go_simp; exact ⟨dstY (by rfl), hS, trivial⟩
    · as_aux_lemma => intro vals a W hS hL; have e59 : a.tmps.getD 59 undef = .pointer (some ((aa.add (1 * 2)).add 1)) := hL.1; clear hL; refine lands_v (run_lfv (.tmp 59) rfl e59 (HX1.out W (SBN.bel hS))) ?_; exact ⟨dstY (by rfl), hS, trivial⟩
    · as_aux_lemma => intro vals a W hS hL; have e60 : a.tmps.getD 60 undef = .slice (some a2) 1 c2 := hL.1; clear hL; go_simp; exact ⟨dstY (by rfl), hS, trivial⟩
    · as_aux_lemma => intro vals a W hS hL; have e61 : a.tmps.getD 61 undef = .pointer (some (a2.add (0 * 6))) := hL.1; clear hL; refine lands_v (run_ldm rtV (HX2.out W (SBN.bel hS)) (.tmp 61) rfl e61) ?_; exact ⟨dstY (by rfl), hS, trivial⟩
    · as_aux_lemma => intro vals a W hS hL; have e56 : a.tmps.getD 56 undef = .slice A1 l.length c1 := hL.1; have e62 : a.tmps.getD 62 undef = .agg (vc y).toArray := hL.2.1; clear hL; go_simp; refine (HC.out W (SBN.bel hS)).mono ?_; rintro e W2 ⟨rfl, hb⟩; exact ⟨_, rfl, dstY (by rfl), hS.call hb, trivial⟩
    · as_aux_lemma =>
        intro a W vals hv hS hL hp; have e4 : a.tmps.getD 4 undef = .pointer (some ⟨g0, 0, none⟩) := hL.1; have e63 : a.tmps.getD 63 undef = .agg (vc r).toArray := hL.2.1; clear hL
        match vals, hv, hS with
        | [], _, hS =>
          refine lands_stg (vs := vc r) rtV (vc_one _) (i := 0) (show BX w [(g0, 32, vc .blank)] W from hS) rfl ((vc_len _).trans (vc_len _).symm) (.tmp 4) (.tmp 63) rfl e4 e63 fun W2 h2 => ?_; exact ⟨h2, trivial, trivial⟩
  · intro a W vals hd hsz hT hF hv hP hS
    obtain ⟨v0, rfl⟩ : ∃ v0, vals = [v0] := by
      match vals, hv with
      | [xv0], _ => exact ⟨xv0, rfl⟩
    have HB : Hid (BX w [(g0, 32, vc r)] W) := Lib.hid hS; have e4 : a.tmps.getD 4 undef = .pointer (some ⟨g0, 0, none⟩) := hT 4 (by simp); have e1 : a.tmps.getD 1 undef = .slice (some aa) 2 c := hT 1 (by simp); clear hT hF hP hS; rw [act_lit 68 a hd hsz]; simp only [List.range, List.range.loop, List.map, e4, e1]; clear e4 e1 hsz hd; generalize a.tmps.getD 0 undef = y0, a.tmps.getD 2 undef = y2, a.tmps.getD 3 undef = y3, a.tmps.getD 5 undef = y5, a.tmps.getD 6 undef = y6, a.tmps.getD 7 undef = y7, a.tmps.getD 8 undef = y8, a.tmps.getD 9 undef = y9, a.tmps.getD 10 undef = y10, a.tmps.getD 11 undef = y11, a.tmps.getD 12 undef = y12, a.tmps.getD 13 undef = y13, a.tmps.getD 14 undef = y14, a.tmps.getD 15 undef = y15, a.tmps.getD 16 undef = y16, a.tmps.getD 17 undef = y17, a.tmps.getD 18 undef = y18, a.tmps.getD 19 undef = y19, a.tmps.getD 20 undef = y20, a.tmps.getD 21 undef = y21, a.tmps.getD 22 undef = y22, a.tmps.getD 23 undef = y23, a.tmps.getD 24 undef = y24, a.tmps.getD 25 undef = y25, a.tmps.getD 26 undef = y26, a.tmps.getD 27 undef = y27, a.tmps.getD 28 undef = y28, a.tmps.getD 29 undef = y29, a.tmps.getD 30 undef = y30, a.tmps.getD 31 undef = y31, a.tmps.getD 32 undef = y32, a.tmps.getD 33 undef = y33, a.tmps.getD 34 undef = y34, a.tmps.getD 35 undef = y35, a.tmps.getD 36 undef = y36, a.tmps.getD 37 undef = y37, a.tmps.getD 38 undef = y38, a.tmps.getD 39 undef = y39, a.tmps.getD 40 undef = y40, a.tmps.getD 41 undef = y41, a.tmps.getD 42 undef = y42, a.tmps.getD 43 undef = y43, a.tmps.getD 44 undef = y44, a.tmps.getD 45 undef = y45, a.tmps.getD 46 undef = y46, a.tmps.getD 47 undef = y47, a.tmps.getD 48 undef = y48, a.tmps.getD 49 undef = y49, a.tmps.getD 50 undef = y50, a.tmps.getD 51 undef = y51, a.tmps.getD 52 undef = y52, a.tmps.getD 53 undef = y53, a.tmps.getD 54 undef = y54, a.tmps.getD 55 undef = y55, a.tmps.getD 56 undef = y56, a.tmps.getD 57 undef = y57, a.tmps.getD 58 undef = y58, a.tmps.getD 59 undef = y59, a.tmps.getD 60 undef = y60, a.tmps.getD 61 undef = y61, a.tmps.getD 62 undef = y62, a.tmps.getD 63 undef = y63, a.tmps.getD 64 undef = y64, a.tmps.getD 65 undef = y65, a.tmps.getD 66 undef = y66, a.tmps.getD 67 undef = y67
    repeat' (first | go_values | go_skip | go_guarded | go_step | go_upon)
    exact bodyPost_ret (res_v rfl HB (i := 0) rfl rfl) rfl ⟨rfl, HB.out.bel⟩
set_option maxRecDepth 20000 in
set_option maxHeartbeats 8000000 in
theorem apply_v {w : World} {op : Int} (hop : ¬ (op = 0 ∨ op = 4 ∨ op = 1 ∨ op = 2 ∨ op = 3 ∨ op = 11 ∨ op = 12 ∨ op = 18 ∨ op = 10 ∨ op = 23 ∨ op = 25 ∨ op = 24)) {A : Option Addr} {n c : Nat} {l : List VX} {r : VX} (HTk : ∀ W, Below w.heap.size w W → Calls Tryz.prog 40 #[.int .i64 op, .slice A n c] W fun e W' => e = .returned (.bool true) ∧ Below W.heap.size W W')
    (HVs : ∀ W, Below w.heap.size w W → Calls Tryz.prog 51 #[.slice A n c] W fun e W' => ∃ A' c', e = .returned (.slice A' n c') ∧ n ≤ c' ∧ RowF valF W' (· < W'.heap.size) A' n l ∧ Below W.heap.size W W')
    (HC : ∀ W A' c', Below w.heap.size w W → n ≤ c' → RowF valF W (· < W.heap.size) A' n l → Calls Tryz.prog 50 #[.int .i64 op, .slice A' n c'] W fun e W' => e = .returned (.agg (vc r).toArray) ∧ Below W.heap.size W W') :
    Calls Tryz.prog 14 #[.int .i64 op, .slice A n c] w fun e W => e = .returned (.agg (vc r).toArray) ∧ Below w.heap.size w W := by
  have HT := Lib.hid HTk; have HC := Lib.hid HC; have HV := Lib.hid HVs; have HB := Lib.hid (BX.start w); have h0 : (op == 0) = false := by rw [beq_eq_false_iff_ne]; omega
  have h4 : (op == 4) = false := by rw [beq_eq_false_iff_ne]; omega
  have h1 : (op == 1) = false := by rw [beq_eq_false_iff_ne]; omega
  have h2 : (op == 2) = false := by rw [beq_eq_false_iff_ne]; omega
  have h3 : (op == 3) = false := by rw [beq_eq_false_iff_ne]; omega
  have h11 : (op == 11) = false := by rw [beq_eq_false_iff_ne]; omega
  have h12 : (op == 12) = false := by rw [beq_eq_false_iff_ne]; omega
  have h18 : (op == 18) = false := by rw [beq_eq_false_iff_ne]; omega
  have h10 : (op == 10) = false := by rw [beq_eq_false_iff_ne]; omega
  have h23 : (op == 23) = false := by rw [beq_eq_false_iff_ne]; omega
  have h25 : (op == 25) = false := by rw [beq_eq_false_iff_ne]; omega
  have h24 : (op == 24) = false := by rw [beq_eq_false_iff_ne]; omega
  clear HTk HVs hop; go_enter Tryz.func14, Tryz.ntmps14
  repeat' (first | ((with_reducible show Oper.wp _ _ _ _ _ _); refine al_v HB rfl ?_; clear HB; intro g0 W HB; go_simp) | go_values | go_skip | go_guarded | go_step | go_upon)
  refine (HT.out _ HB.out.bel).mono ?_; rintro e W1 ⟨rfl, hb⟩; have HB := Lib.hid (HB.out.call hb); clear hb; dsimp only
  repeat' (first | go_values | go_skip | go_guarded | go_step | go_upon)
  refine (HV.out _ HB.out.bel).mono ?_; rintro e W1 ⟨A', c', rfl, hc, hr, hb⟩; have HB := Lib.hid (HB.out.call hb); have HR := Lib.hid (HC.out W1 A' c' HB.out.bel hc hr); clear hb hr hc; dsimp only
  repeat' (first | go_values | go_skip | go_guarded | go_step | go_upon)
  refine (HR.out).mono ?_; rintro e W1 ⟨rfl, hb⟩; have HB := Lib.hid (HB.out.call hb); clear hb; dsimp only
  repeat' (first | ((with_reducible show Oper.wp _ _ _ _ _ _); refine st_v 0 HB rfl _ _ rfl rfl rfl ?_; clear HB; intro W HB; dsimp only [List.set] at HB; go_simp) | go_values | go_skip | go_guarded | go_step | go_upon)
  exact bodyPost_ret (res_v rfl HB (i := 0) rfl rfl) rfl ⟨rfl, HB.out.bel⟩
end Go.Proofs.YtngkolcpbgibcaaGreatDoor
