/- fun.Binary by its contract. Condition: values may be. -/
import Derived.Test.YtngkolcpbgibcaaGreatDoorSb
set_option linter.unusedVariables false
set_option linter.unusedSimpArgs false
namespace Go.Proofs.YtngkolcpbgibcaaGreatDoor
open Go.RowKit
def funBin (op : Int) (x y : VX) : VX := if x.kind = 4 then x else if y.kind = 4 then y else if 1 ≤ op ∧ op ≤ 5 then rkX op (nnX x y) else if op = 6 then conN (wsX [x, y]) else if 7 ≤ op ∧ op ≤ 12 then .bool (holdsB op (cmpX x y)) else .err 15
set_option maxRecDepth 20000 in
set_option maxHeartbeats 4000000 in
theorem bin_e1 {w : World} {op : Int} {x y : VX} (kx : x.kind = 4) :
    Calls Tryz.prog 18 #[.int .i64 op, .agg (vc x).toArray, .agg (vc y).toArray] w fun e W => e = .returned (.agg (vc x).toArray) ∧ Below w.heap.size w W := by
  have HB := Lib.hid (BX.start w); have kx' : (x.kind == 4) = true := by rw [kx]; rfl
  clear kx; go_enter Tryz.func18, Tryz.ntmps18
  repeat' (first | ((with_reducible show Oper.wp _ _ _ _ _ _); (first | ((first | refine al_v HB rfl ?_ | refine bx_v HB _ rfl rfl ?_); clear HB; (first | (have _t : Nat := g1; clear _t; intro g2 W HB) | (have _t : Nat := g0; clear _t; intro g1 W HB) | intro g0 W HB); go_simp) | ((first | refine ld_v 2 HB rfl _ rfl rfl ?_ | refine ld_k 2 HB rfl _ rfl rfl ?_); go_simp) | (refine st_v 0 HB rfl _ _ rfl rfl rfl ?_; clear HB; intro W HB; dsimp only [List.set] at HB; go_simp))) | go_values | go_skip | go_guarded | go_step | go_upon)
  exact bodyPost_ret (res_v rfl HB (i := 0) rfl rfl) rfl ⟨rfl, HB.out.bel⟩
set_option maxRecDepth 20000 in
set_option maxHeartbeats 4000000 in
theorem bin_e2 {w : World} {op : Int} {x y : VX} (kx : ¬ x.kind = 4) (ky : y.kind = 4) :
    Calls Tryz.prog 18 #[.int .i64 op, .agg (vc x).toArray, .agg (vc y).toArray] w fun e W => e = .returned (.agg (vc y).toArray) ∧ Below w.heap.size w W := by
  have HB := Lib.hid (BX.start w); have kx' : (x.kind == 4) = false := by rw [beq_eq_false_iff_ne]; exact kx
  have ky' : (y.kind == 4) = true := by rw [ky]; rfl
  clear kx ky; go_enter Tryz.func18, Tryz.ntmps18
  repeat' (first | ((with_reducible show Oper.wp _ _ _ _ _ _); (first | ((first | refine al_v HB rfl ?_ | refine bx_v HB _ rfl rfl ?_); clear HB; (first | (have _t : Nat := g1; clear _t; intro g2 W HB) | (have _t : Nat := g0; clear _t; intro g1 W HB) | intro g0 W HB); go_simp) | ((first | refine ld_v 1 HB rfl _ rfl rfl ?_ | refine ld_k 1 HB rfl _ rfl rfl ?_ | refine ld_k 2 HB rfl _ rfl rfl ?_); go_simp) | (refine st_v 0 HB rfl _ _ rfl rfl rfl ?_; clear HB; intro W HB; dsimp only [List.set] at HB; go_simp))) | go_values | go_skip | go_guarded | go_step | go_upon)
  exact bodyPost_ret (res_v rfl HB (i := 0) rfl rfl) rfl ⟨rfl, HB.out.bel⟩
set_option maxRecDepth 20000 in
set_option maxHeartbeats 8000000 in
theorem bin_r {w : World} {op : Int} (hop : op = 1 ∨ op = 2 ∨ op = 3 ∨ op = 4 ∨ op = 5) {x y : VX} (kx : ¬ x.kind = 4) (ky : ¬ y.kind = 4) (hx : shortX 100000000 x) (hy : shortX 100000000 y) (gx : GdX x) (gy : GdX y) :
    Calls Tryz.prog 18 #[.int .i64 op, .agg (vc x).toArray, .agg (vc y).toArray] w fun e W => e = .returned (.agg (vc (rkX op (nnX x y))).toArray) ∧ Below w.heap.size w W := by
  have HC := Lib.hid (fun W : World => reckon_any (w := W) (op := op) hx hy gx gy); have HB := Lib.hid (BX.start w); have kx' : (x.kind == 4) = false := by rw [beq_eq_false_iff_ne]; exact kx
  have ky' : (y.kind == 4) = false := by rw [beq_eq_false_iff_ne]; exact ky
  clear kx ky hx hy gx gy
  rcases hop with rfl | rfl | rfl | rfl | rfl
  all_goals
    go_enter Tryz.func18, Tryz.ntmps18
    repeat' (first | ((with_reducible show Oper.wp _ _ _ _ _ _); (first | ((first | refine al_v HB rfl ?_ | refine bx_v HB _ rfl rfl ?_); clear HB; (first | (have _t : Nat := g1; clear _t; intro g2 W HB) | (have _t : Nat := g0; clear _t; intro g1 W HB) | intro g0 W HB); go_simp) | ((first | refine ld_v 1 HB rfl _ rfl rfl ?_ | refine ld_v 2 HB rfl _ rfl rfl ?_ | refine ld_k 1 HB rfl _ rfl rfl ?_ | refine ld_k 2 HB rfl _ rfl rfl ?_); go_simp))) | go_values | go_skip | go_guarded | go_step | go_upon)
    refine (HC.out _).mono ?_; rintro e W1 ⟨rfl, hb⟩; have HB := Lib.hid (HB.out.call hb); clear hb; dsimp only
    repeat' (first | ((with_reducible show Oper.wp _ _ _ _ _ _); refine st_v 0 HB rfl _ _ rfl rfl rfl ?_; clear HB; intro W HB; dsimp only [List.set] at HB; go_simp) | go_values | go_skip | go_guarded | go_step | go_upon)
    exact bodyPost_ret (res_v rfl HB (i := 0) rfl rfl) rfl ⟨rfl, HB.out.bel⟩
set_option maxRecDepth 20000 in
set_option maxHeartbeats 8000000 in
theorem bin_c {w : World} {op : Int} (hop : op = 7 ∨ op = 8 ∨ op = 9 ∨ op = 10 ∨ op = 11 ∨ op = 12) {x y : VX} (kx : ¬ x.kind = 4) (ky : ¬ y.kind = 4) (ox : OkX x) (oy : OkX y) (hx : shortX 10000000 x) (hy : shortX 10000000 y) :
    Calls Tryz.prog 18 #[.int .i64 op, .agg (vc x).toArray, .agg (vc y).toArray] w fun e W => e = .returned (.agg (vc (.bool (holdsB op (cmpX x y)))).toArray) ∧ Below w.heap.size w W := by
  have HC := Lib.hid (fun W : World => cmpx_any (w := W) ox oy hx hy); simp only [xval_vc] at HC; have HH := Lib.hid (fun W : World => holds_any (w := W) (op := op) (cmpX x y)); have HB := Lib.hid (BX.start w); have kx' : (x.kind == 4) = false := by rw [beq_eq_false_iff_ne]; exact kx
  have ky' : (y.kind == 4) = false := by rw [beq_eq_false_iff_ne]; exact ky
  clear kx ky hx hy ox oy; generalize holdsB op (cmpX x y) = b at *; generalize cmpX x y = z at *
  rcases hop with rfl | rfl | rfl | rfl | rfl | rfl
  all_goals
    go_enter Tryz.func18, Tryz.ntmps18
    repeat' (first | ((with_reducible show Oper.wp _ _ _ _ _ _); (first | ((first | refine al_v HB rfl ?_ | refine bx_v HB _ rfl rfl ?_); clear HB; (first | (have _t : Nat := g1; clear _t; intro g2 W HB) | (have _t : Nat := g0; clear _t; intro g1 W HB) | intro g0 W HB); go_simp) | ((first | refine ld_v 1 HB rfl _ rfl rfl ?_ | refine ld_v 2 HB rfl _ rfl rfl ?_ | refine ld_k 1 HB rfl _ rfl rfl ?_ | refine ld_k 2 HB rfl _ rfl rfl ?_); go_simp))) | go_values | go_skip | go_guarded | go_step | go_upon)
    refine (HC.out _).mono ?_; rintro e W1 ⟨rfl, hb⟩; have HB := Lib.hid (HB.out.call hb); clear hb; dsimp only
    repeat' (first | go_values | go_skip | go_guarded | go_step | go_upon)
    refine (HH.out _).mono ?_; rintro e W1 ⟨rfl, hb⟩; have HB := Lib.hid (HB.out.call hb); clear hb; dsimp only
    repeat' (first | go_values | go_skip | go_guarded | go_step | go_upon)
    refine (fTruth_any b).mono ?_; rintro e W1 ⟨rfl, hb⟩; have HB := Lib.hid (HB.out.call hb); clear hb; dsimp only
    repeat' (first | ((with_reducible show Oper.wp _ _ _ _ _ _); refine st_v 0 HB rfl _ _ rfl rfl rfl ?_; clear HB; intro W HB; dsimp only [List.set] at HB; go_simp) | go_values | go_skip | go_guarded | go_step | go_upon)
    exact bodyPost_ret (res_v rfl HB (i := 0) rfl rfl) rfl ⟨rfl, HB.out.bel⟩
set_option maxRecDepth 20000 in
set_option maxHeartbeats 8000000 in
theorem bin_no {w : World} {op : Int} (hop : op < 1 ∨ 12 < op) {x y : VX} (kx : ¬ x.kind = 4) (ky : ¬ y.kind = 4) :
    Calls Tryz.prog 18 #[.int .i64 op, .agg (vc x).toArray, .agg (vc y).toArray] w fun e W => e = .returned (.agg (vc (.err 15)).toArray) ∧ Below w.heap.size w W := by
  have HB := Lib.hid (BX.start w); have kx' : (x.kind == 4) = false := by rw [beq_eq_false_iff_ne]; exact kx
  have ky' : (y.kind == 4) = false := by rw [beq_eq_false_iff_ne]; exact ky
  have h1 : (op == 1) = false := by rw [beq_eq_false_iff_ne]; omega
  have h2 : (op == 2) = false := by rw [beq_eq_false_iff_ne]; omega
  have h3 : (op == 3) = false := by rw [beq_eq_false_iff_ne]; omega
  have h4 : (op == 4) = false := by rw [beq_eq_false_iff_ne]; omega
  have h5 : (op == 5) = false := by rw [beq_eq_false_iff_ne]; omega
  have h6 : (op == 6) = false := by rw [beq_eq_false_iff_ne]; omega
  have h7 : (op == 7) = false := by rw [beq_eq_false_iff_ne]; omega
  have h8 : (op == 8) = false := by rw [beq_eq_false_iff_ne]; omega
  have h9 : (op == 9) = false := by rw [beq_eq_false_iff_ne]; omega
  have h10 : (op == 10) = false := by rw [beq_eq_false_iff_ne]; omega
  have h11 : (op == 11) = false := by rw [beq_eq_false_iff_ne]; omega
  have h12 : (op == 12) = false := by rw [beq_eq_false_iff_ne]; omega
  clear kx ky hop; go_enter Tryz.func18, Tryz.ntmps18
  repeat' (first | ((with_reducible show Oper.wp _ _ _ _ _ _); (first | ((first | refine al_v HB rfl ?_ | refine bx_v HB _ rfl rfl ?_); clear HB; (first | (have _t : Nat := g1; clear _t; intro g2 W HB) | (have _t : Nat := g0; clear _t; intro g1 W HB) | intro g0 W HB); go_simp) | ((first | refine ld_k 1 HB rfl _ rfl rfl ?_ | refine ld_k 2 HB rfl _ rfl rfl ?_); go_simp))) | go_values | go_skip | go_guarded | go_step | go_upon)
  refine (fFault 15).mono ?_; rintro e W1 ⟨rfl, hb⟩; have HB := Lib.hid (HB.out.call hb); clear hb; dsimp only
  repeat' (first | ((with_reducible show Oper.wp _ _ _ _ _ _); refine st_v 0 HB rfl _ _ rfl rfl rfl ?_; clear HB; intro W HB; dsimp only [List.set] at HB; go_simp) | go_values | go_skip | go_guarded | go_step | go_upon)
  exact bodyPost_ret (res_v rfl HB (i := 0) rfl rfl) rfl ⟨rfl, HB.out.bel⟩
theorem fBinary_any {w : World} (HTn : Tens w) (HVl : Val w) {op : Int} {x y : VX} (ox : OkX x) (oy : OkX y) (hx : shortX 10000000 x) (hy : shortX 10000000 y) (gx : GdX x) (gy : GdX y) :
    Calls Tryz.prog 18 #[.int .i64 op, .agg (vc x).toArray, .agg (vc y).toArray] w fun e W => e = .returned (.agg (vc (funBin op x y)).toArray) ∧ Below w.heap.size w W := by
  have sh : ∀ z : VX, shortX 10000000 z → shortX 100000000 z := fun z h => by
    cases z with
    | str t => exact Nat.le_trans h (by decide)
    | _ => trivial
  unfold funBin
  by_cases kx : x.kind = 4
  · rw [if_pos kx]; exact bin_e1 kx
  · rw [if_neg kx]
    by_cases ky : y.kind = 4
    · rw [if_pos ky]; exact bin_e2 kx ky
    · rw [if_neg ky]
      by_cases h5 : 1 ≤ op ∧ op ≤ 5
      · rw [if_pos h5]; exact bin_r (by omega) kx ky (sh x hx) (sh y hy) gx gy
      · rw [if_neg h5]
        by_cases h6 : op = 6
        · rw [if_pos h6]; subst h6; exact bin_six HTn HVl ⟨ox, sh x hx⟩ ⟨oy, sh y hy⟩ kx ky
        · rw [if_neg h6]
          by_cases h7 : 7 ≤ op ∧ op ≤ 12
          · rw [if_pos h7]; exact bin_c (by omega) kx ky ox oy hx hy
          · rw [if_neg h7]; exact bin_no (by omega) kx ky
end Go.Proofs.YtngkolcpbgibcaaGreatDoor
