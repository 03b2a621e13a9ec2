/- fun.takes by its contract. Condition: the table is laid. -/
/- fun.Apply by its contract, by what it calls. Condition: what it calls keeps its contract. -/
import Derived.Test.YtngkolcpbgibcaaGreatDoorH3
import Derived.Test.YtngkolcpbgibcaaGreatDoorH4
import Derived.Test.YtngkolcpbgibcaaGreatDoorKa
set_option linter.unusedVariables false
set_option linter.unusedSimpArgs false
namespace Go.Proofs.YtngkolcpbgibcaaGreatDoor
open Go.RowKit
theorem takes_any {w : World} (HF : FnT w) {k : Int} {A : Option Addr} {c : Nat} {args : List (Bool × List VX)} (h : RowF argF w (· < w.heap.size) A args.length args) (hn : args.length ≤ 1000000) :
    Calls Tryz.prog 40 #[.int .i64 k, .slice A args.length c] w fun e W => e = .returned (.bool (takesB k args)) ∧ Below w.heap.size w W := by
  by_cases hf : 0 ≤ k ∧ k < 30
  · have HI := Lib.hid (fun W : World => isFunction_any (w := W) k); rw [show funB k = true from decide_eq_true hf] at HI; obtain ⟨n, rfl⟩ : ∃ n : Nat, k = (n : Int) := ⟨k.toNat, by omega⟩
    have hn' : n < fnTab.length := by have : fnTab.length = 30 := rfl; omega
    obtain ⟨x, hx⟩ : ∃ x, fnTab[n]? = some x := ⟨_, List.getElem?_eq_getElem hn'⟩
    have c1 := HF.least n x hx; have c2 := HF.most n x hx
    by_cases hlo : (args.length : Int) < x.2.1
    · rw [takes_few rfl hx (by omega)]; exact takes_few_w c1 c2 HI hf.2 hlo
    · by_cases hhi : x.2.2 < (args.length : Int)
      · rw [takes_few rfl hx (by omega)]; exact takes_many_w c1 c2 HI hf.2 hlo hhi
      · have hS := takes_args (args := args) (k := (n : Int)) rfl hx (by omega) (by omega); rw [hS]; unfold shB
        by_cases h3 : (n : Int) = 10 ∨ (n : Int) = 23 ∨ (n : Int) = 25
        · rw [if_pos h3]; have hpos := fn_pos hx (by omega)
          match args, h, hn, hlo, hhi with
          | [], _, _, hlo, _ => exact absurd hlo (by simp; omega)
          | y :: r, h, hn, hlo, hhi =>
            rw [List.length_cons] at hn hlo hhi; have hlo' : ¬ ((r.length : Int) + 1) < x.2.1 := by omega
            have hhi' : ¬ x.2.2 < ((r.length : Int) + 1) := by omega
            rcases h3 with h3 | h3 | h3
            · exact takes_10_w c1 c2 HI hf.2 (by omega) (by omega) h hlo' hhi'
            · exact takes_23_w c1 c2 HI hf.2 (by omega) (by omega) h hlo' hhi'
            · exact takes_25_w c1 c2 HI hf.2 (by omega) (by omega) h hlo' hhi'
        · rw [if_neg h3]
          by_cases h4 : (n : Int) = 24
          · rw [if_pos h4]; obtain ⟨e1, e2⟩ := fn_24 hx h4
            match args, h, hlo, hhi with
            | [y, z], h, hlo, hhi =>
              dsimp only
              cases hy : y.1 with
              | true =>
                rw [Bool.true_and]; exact takes_24_true c1 c2 HI hf.2 (by omega) hy h (by rw [e1]; decide) (by rw [e2]; decide)
              | false =>
                rw [Bool.false_and]; exact takes_24_false c1 c2 HI hf.2 (by omega) hy h (by rw [e1]; decide) (by rw [e2]; decide)
            | [], _, hlo, _ => exact absurd hlo (by rw [e1]; decide)
            | [_], _, hlo, _ => exact absurd hlo (by rw [e1]; simp)
            | _ :: _ :: _ :: _, _, _, hhi => exact absurd hhi (by rw [e2]; simp; omega)
          · rw [if_neg h4]; exact takes_all_w c1 c2 HI hf.2 hn h hlo hhi (by omega) (by omega) (by omega) (by omega)
  · rw [takes_none hf]; exact takes_none_w hf
end Go.Proofs.YtngkolcpbgibcaaGreatDoor
namespace Go.Proofs.YtngkolcpbgibcaaGreatDoor
open Go.RowKit
set_option maxRecDepth 20000 in
set_option maxHeartbeats 8000000 in
theorem apply_no {w : World} {op : Int} {A : Option Addr} {n c : Nat} (HTk : ∀ W, Below w.heap.size w W → Calls Tryz.prog 40 #[.int .i64 op, .slice A n c] W fun e W' => e = .returned (.bool false) ∧ Below W.heap.size W W') :
    Calls Tryz.prog 14 #[.int .i64 op, .slice A n c] w fun e W => e = .returned (.agg (vc (.err 15)).toArray) ∧ Below w.heap.size w W := by
  have HT := Lib.hid HTk; have HB := Lib.hid (BX.start w); clear HTk; go_enter Tryz.func14, Tryz.ntmps14
  repeat' (first | ((with_reducible show Oper.wp _ _ _ _ _ _); refine al_v HB rfl ?_; clear HB; intro g0 W HB; go_simp) | go_values | go_skip | go_guarded | go_step | go_upon)
  refine (HT.out _ HB.out.bel).mono ?_; rintro e W1 ⟨rfl, hb⟩; have HB := Lib.hid (HB.out.call hb); clear hb; dsimp only
  repeat' (first | go_values | go_skip | go_guarded | go_step | go_upon)
  refine (fFault 15).mono ?_; rintro e W1 ⟨rfl, hb⟩; have HB := Lib.hid (HB.out.call hb); clear hb; dsimp only
  repeat' (first | ((with_reducible show Oper.wp _ _ _ _ _ _); refine st_v 0 HB rfl _ _ rfl rfl rfl ?_; clear HB; intro W HB; dsimp only [List.set] at HB; go_simp) | go_values | go_skip | go_guarded | go_step | go_upon)
  exact bodyPost_ret (res_v rfl HB (i := 0) rfl rfl) rfl ⟨rfl, HB.out.bel⟩
set_option maxRecDepth 20000 in
set_option maxHeartbeats 8000000 in
theorem apply_0 {w : World} {A : Option Addr} {n c : Nat} {r : VX} (HTk : ∀ W, Below w.heap.size w W → Calls Tryz.prog 40 #[.int .i64 0, .slice A n c] W fun e W' => e = .returned (.bool true) ∧ Below W.heap.size W W')
    (HC : ∀ W, Below w.heap.size w W → Calls Tryz.prog 41 #[.int .i64 0, .slice A n c] W fun e W' => e = .returned (.agg (vc r).toArray) ∧ Below W.heap.size W W') :
    Calls Tryz.prog 14 #[.int .i64 0, .slice A n c] w fun e W => e = .returned (.agg (vc r).toArray) ∧ Below w.heap.size w W := by
  have HT := Lib.hid HTk; have HC := Lib.hid HC; have HB := Lib.hid (BX.start w); clear HTk; go_enter Tryz.func14, Tryz.ntmps14
  repeat' (first | ((with_reducible show Oper.wp _ _ _ _ _ _); refine al_v HB rfl ?_; clear HB; intro g0 W HB; go_simp) | go_values | go_skip | go_guarded | go_step | go_upon)
  refine (HT.out _ HB.out.bel).mono ?_; rintro e W1 ⟨rfl, hb⟩; have HB := Lib.hid (HB.out.call hb); clear hb; dsimp only
  repeat' (first | go_values | go_skip | go_guarded | go_step | go_upon)
  refine (HC.out _ HB.out.bel).mono ?_; rintro e W1 ⟨rfl, hb⟩; have HB := Lib.hid (HB.out.call hb); clear hb; dsimp only
  repeat' (first | ((with_reducible show Oper.wp _ _ _ _ _ _); refine st_v 0 HB rfl _ _ rfl rfl rfl ?_; clear HB; intro W HB; dsimp only [List.set] at HB; go_simp) | go_values | go_skip | go_guarded | go_step | go_upon)
  exact bodyPost_ret (res_v rfl HB (i := 0) rfl rfl) rfl ⟨rfl, HB.out.bel⟩
set_option maxRecDepth 20000 in
set_option maxHeartbeats 8000000 in
theorem apply_4 {w : World} {A : Option Addr} {n c : Nat} {r : VX} (HTk : ∀ W, Below w.heap.size w W → Calls Tryz.prog 40 #[.int .i64 4, .slice A n c] W fun e W' => e = .returned (.bool true) ∧ Below W.heap.size W W')
    (HC : ∀ W, Below w.heap.size w W → Calls Tryz.prog 41 #[.int .i64 4, .slice A n c] W fun e W' => e = .returned (.agg (vc r).toArray) ∧ Below W.heap.size W W') :
    Calls Tryz.prog 14 #[.int .i64 4, .slice A n c] w fun e W => e = .returned (.agg (vc r).toArray) ∧ Below w.heap.size w W := by
  have HT := Lib.hid HTk; have HC := Lib.hid HC; have HB := Lib.hid (BX.start w); clear HTk; go_enter Tryz.func14, Tryz.ntmps14
  repeat' (first | ((with_reducible show Oper.wp _ _ _ _ _ _); refine al_v HB rfl ?_; clear HB; intro g0 W HB; go_simp) | go_values | go_skip | go_guarded | go_step | go_upon)
  refine (HT.out _ HB.out.bel).mono ?_; rintro e W1 ⟨rfl, hb⟩; have HB := Lib.hid (HB.out.call hb); clear hb; dsimp only
  repeat' (first | go_values | go_skip | go_guarded | go_step | go_upon)
  refine (HC.out _ HB.out.bel).mono ?_; rintro e W1 ⟨rfl, hb⟩; have HB := Lib.hid (HB.out.call hb); clear hb; dsimp only
  repeat' (first | ((with_reducible show Oper.wp _ _ _ _ _ _); refine st_v 0 HB rfl _ _ rfl rfl rfl ?_; clear HB; intro W HB; dsimp only [List.set] at HB; go_simp) | go_values | go_skip | go_guarded | go_step | go_upon)
  exact bodyPost_ret (res_v rfl HB (i := 0) rfl rfl) rfl ⟨rfl, HB.out.bel⟩
set_option maxRecDepth 20000 in
set_option maxHeartbeats 8000000 in
theorem apply_3 {w : World} {A : Option Addr} {n c : Nat} {r : VX} (HTk : ∀ W, Below w.heap.size w W → Calls Tryz.prog 40 #[.int .i64 3, .slice A n c] W fun e W' => e = .returned (.bool true) ∧ Below W.heap.size W W')
    (HC : ∀ W, Below w.heap.size w W → Calls Tryz.prog 43 #[.slice A n c] W fun e W' => e = .returned (.agg (vc r).toArray) ∧ Below W.heap.size W W') :
    Calls Tryz.prog 14 #[.int .i64 3, .slice A n c] w fun e W => e = .returned (.agg (vc r).toArray) ∧ Below w.heap.size w W := by
  have HT := Lib.hid HTk; have HC := Lib.hid HC; have HB := Lib.hid (BX.start w); clear HTk; go_enter Tryz.func14, Tryz.ntmps14
  repeat' (first | ((with_reducible show Oper.wp _ _ _ _ _ _); refine al_v HB rfl ?_; clear HB; intro g0 W HB; go_simp) | go_values | go_skip | go_guarded | go_step | go_upon)
  refine (HT.out _ HB.out.bel).mono ?_; rintro e W1 ⟨rfl, hb⟩; have HB := Lib.hid (HB.out.call hb); clear hb; dsimp only
  repeat' (first | go_values | go_skip | go_guarded | go_step | go_upon)
  refine (HC.out _ HB.out.bel).mono ?_; rintro e W1 ⟨rfl, hb⟩; have HB := Lib.hid (HB.out.call hb); clear hb; dsimp only
  repeat' (first | ((with_reducible show Oper.wp _ _ _ _ _ _); refine st_v 0 HB rfl _ _ rfl rfl rfl ?_; clear HB; intro W HB; dsimp only [List.set] at HB; go_simp) | go_values | go_skip | go_guarded | go_step | go_upon)
  exact bodyPost_ret (res_v rfl HB (i := 0) rfl rfl) rfl ⟨rfl, HB.out.bel⟩
end Go.Proofs.YtngkolcpbgibcaaGreatDoor
