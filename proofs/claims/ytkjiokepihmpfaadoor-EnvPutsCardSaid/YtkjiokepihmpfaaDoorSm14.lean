/- slices.Equal of rows of slots, env.Same where no Names are, by their contracts. Rows can be read. -/
import Derived.Test.YtkjiokepihmpfaaDoorCn14
set_option linter.unusedVariables false
set_option linter.unusedSimpArgs false
namespace Go.Proofs.YtkjiokepihmpfaaDoor
open Go.RowKit

/-- Are two rows alike? -/
def eqL : List Sl → List Sl → Bool
  | [], [] => true
  | x :: L, y :: M => eqS x y && eqL L M
  | _, _ => false
theorem eqL_iff : ∀ {L M : List Sl}, eqL L M = true ↔ L = M
  | [], [] => by simp [eqL]
  | [], _ :: _ => by simp [eqL]
  | _ :: _, [] => by simp [eqL]
  | x :: L, y :: M => by
    unfold eqL
    rw [Bool.and_eq_true, eqS_iff, eqL_iff, List.cons.injEq]
set_option maxRecDepth 20000 in
set_option maxHeartbeats 4000000 in
theorem equal_any {w : World} {L M : List Sl} {B c c2 : Nat} {A A2 : Option Addr} (h : Rd w B 9 A L.length (rwc L)) (h2 : Rd w B 9 A2 M.length (rwc M)) (hB : B ≤ w.heap.size) (hl : L.length ≤ 100000) (hl2 : M.length ≤ 100000) (hc : L.length ≤ c) (hc2 : M.length ≤ c2) :
    Calls Tryd.prog 44 #[.slice A L.length c, .slice A2 M.length c2] w fun e W => e = .returned (.bool (eqL L M)) ∧ Below w.heap.size w W := by
  by_cases hn : L.length = M.length
  · have HR := Lib.hid (h.mono hB)
    have HR2 := Lib.hid (h2.mono hB)
    obtain ⟨n, hnn⟩ : ∃ n, n = L.length := ⟨_, rfl⟩
    have HN := Lib.hid hnn
    have HM := Lib.hid (hnn.trans hn)
    rw [← hn, ← hnn]
    rw [← hn, ← hnn] at hc2
    rw [← hnn] at hl hc
    obtain ⟨z, hz⟩ : ∃ z, z = eqL L M := ⟨_, rfl⟩
    have HZ := Lib.hid hz
    rw [← hz]
    clear h h2 hB hn hl2 hnn hz
    go_enter Tryd.func44, Tryd.ntmps44
    repeat' (first | go_values | go_skip | go_guarded | go_step | go_upon)
    go_loopw [13] (fun i wr => ∃ k : Nat, i = .int .i64 k ∧ k ≤ n ∧ Hid (z = eqL (L.drop k) (M.drop k)) ∧ Hid (Below w.heap.size w wr)) (fun i _ => n - (intOf i).toNat)
    case atStart => exact ⟨0, rfl, Nat.zero_le _, HZ, Lib.hid (Below.refl _ _)⟩
    case round =>
      obtain ⟨k, rfl, hkn, HE, HB⟩ := hrel
      by_cases hlt : k < n
      · have hlt' : (k : Int) < (n : Int) := by omega
        have hk0 : (0 : Int) ≤ (k : Int) := by omega
        have hk2 : k ≤ 100000 := by omega
        obtain ⟨x, hx⟩ : ∃ x, L[k]? = some x := ⟨_, List.getElem?_eq_getElem (by rw [← HN.out]; exact hlt)⟩
        obtain ⟨y, hy⟩ : ∃ y, M[k]? = some y := ⟨_, List.getElem?_eq_getElem (by rw [← HM.out]; exact hlt)⟩
        obtain ⟨q, hq, hqc⟩ := rd_row HR.out (Nat.le_refl _) hx
        obtain ⟨q2, hq2, hqc2⟩ := rd_row HR2.out (Nat.le_refl _) hy
        subst hq hq2
        have HX := Lib.hid (fun W' (hb : Below wr.heap.size wr W') => hqc W' (HB.out.trans (hb.mono HB.out.size)))
        have HY := Lib.hid (fun W' (hb : Below wr.heap.size wr W') => hqc2 W' (HB.out.trans (hb.mono HB.out.size)))
        have HE2 := Lib.hid (show z = (eqS x y && eqL (L.drop (k + 1)) (M.drop (k + 1))) by
          obtain ⟨hl1, he1⟩ := List.getElem?_eq_some_iff.1 hx
          obtain ⟨hl2, he2⟩ := List.getElem?_eq_some_iff.1 hy
          rw [HE.out, List.drop_eq_getElem_cons hl1, List.drop_eq_getElem_cons hl2, he1, he2, eqL])
        clear hqc hqc2 hx hy HE
        repeat' (first | go_values | go_skip | go_guarded | go_step | go_upon)
        refine wp_region_phases (S := (fun _ W => Below wr.heap.size wr W)) (E := (fun W W' => Below W.heap.size W W')) [] [(0, Is (.slice (some q) n c)), (1, Is (.slice (some q2) n c2)), (2, Is (undef)), (3, Is (undef)), (5, Is (.int .i64 k)), (6, Is (.slice (some q) n c)), (7, Is (.int .i64 n)), (8, Is (.slice (some q2) n c2)), (9, Is (.int .i64 n)), (10, Is (.bool false)), (11, Is (.slice (some q) n c)), (12, Is (.int .i64 n)), (13, Is (.int .i64 k))] [(16, Is (.slice (some q) n c)), (17, Is (.int .i64 k)), (18, Is (.pointer (some (q.add (k * 9))))), (19, Is (.agg (slc x).toArray)), (20, Is (.slice (some q2) n c2)), (21, Is (.int .i64 k)), (22, Is (.pointer (some (q2.add (k * 9))))), (23, Is (.agg (slc y).toArray)), (24, Is (.bool (!eqS x y)))]
          [.op [0] none, .op [5] none, .op [16, 17] none, .op [18] none, .op [1] none, .op [5] none, .op [20, 21] none, .op [22] none, .op [19, 23] none] (by as_aux_lemma => kernel_rfl) ?_ ?_ ?_ ?_ ?_ ⟨stable_is _ _, stable_is _ _, stable_is _ _, stable_is _ _, stable_is _ _, stable_is _ _, stable_is _ _, stable_is _ _, stable_is _ _, stable_is _ _, stable_is _ _, stable_is _ _, stable_is _ _, stable_is _ _, stable_is _ _, stable_is _ _, stable_is _ _, stable_is _ _, stable_is _ _, stable_is _ _, stable_is _ _, stable_is _ _, trivial⟩ ?_ (Below.refl _ _).drew ?_ ?_
        · as_aux_lemma => kernel_rfl
        · as_aux_lemma => kernel_rfl
        · as_aux_lemma => kernel_rfl
        · as_aux_lemma => kernel_rfl
        · as_aux_lemma => kernel_rfl
        · exact ⟨rfl, rfl, rfl, rfl, rfl, rfl, rfl, rfl, rfl, rfl, rfl, rfl, rfl, trivial⟩
        · refine ⟨?_, ?_, ?_, ?_, ?_, ?_, ?_, ?_, ?_, trivial⟩
          · as_aux_lemma =>
              intro vals a W hS hL
              have e0 : a.tmps.getD 0 undef = .slice (some q) n c := hL.1
              clear hL
              go_simp
              exact ⟨⟨fun d hd => by injection hd with hd; subst hd; rfl, fun h => by cases h⟩, hS, (Below.refl _ _)⟩
          · as_aux_lemma =>
              intro vals a W hS hL
              have e5 : a.tmps.getD 5 undef = .int .i64 k := hL.1
              clear hL
              go_simp
              exact ⟨⟨fun d hd => by injection hd with hd; subst hd; rfl, fun h => by cases h⟩, hS, (Below.refl _ _)⟩
          · as_aux_lemma =>
              intro vals a W hS hL
              have e16 : a.tmps.getD 16 undef = .slice (some q) n c := hL.1
              have e17 : a.tmps.getD 17 undef = .int .i64 k := hL.2.1
              clear hL
              go_simp
              exact ⟨⟨fun d hd => by injection hd with hd; subst hd; rfl, fun h => by cases h⟩, hS, (Below.refl _ _)⟩
          · as_aux_lemma =>
              intro vals a W hS hL
              have e18 : a.tmps.getD 18 undef = .pointer (some (q.add (k * 9))) := hL.1
              clear hL
              refine lands_vB (run_ldmB (cs := slc x) rtSl (fun j u hj => HX.out W hS j u hj) (.tmp 18) rfl e18) ?_
              exact ⟨⟨fun d hd => by injection hd with hd; subst hd; rfl, fun h => by cases h⟩, hS, Below.refl _ _⟩
          · as_aux_lemma =>
              intro vals a W hS hL
              have e1 : a.tmps.getD 1 undef = .slice (some q2) n c2 := hL.1
              clear hL
              go_simp
              exact ⟨⟨fun d hd => by injection hd with hd; subst hd; rfl, fun h => by cases h⟩, hS, (Below.refl _ _)⟩
          · as_aux_lemma =>
              intro vals a W hS hL
              have e5 : a.tmps.getD 5 undef = .int .i64 k := hL.1
              clear hL
              go_simp
              exact ⟨⟨fun d hd => by injection hd with hd; subst hd; rfl, fun h => by cases h⟩, hS, (Below.refl _ _)⟩
          · as_aux_lemma =>
              intro vals a W hS hL
              have e20 : a.tmps.getD 20 undef = .slice (some q2) n c2 := hL.1
              have e21 : a.tmps.getD 21 undef = .int .i64 k := hL.2.1
              clear hL
              go_simp
              exact ⟨⟨fun d hd => by injection hd with hd; subst hd; rfl, fun h => by cases h⟩, hS, (Below.refl _ _)⟩
          · as_aux_lemma =>
              intro vals a W hS hL
              have e22 : a.tmps.getD 22 undef = .pointer (some (q2.add (k * 9))) := hL.1
              clear hL
              refine lands_vB (run_ldmB (cs := slc y) rtSl (fun j u hj => HY.out W hS j u hj) (.tmp 22) rfl e22) ?_
              exact ⟨⟨fun d hd => by injection hd with hd; subst hd; rfl, fun h => by cases h⟩, hS, Below.refl _ _⟩
          · as_aux_lemma =>
              intro vals a W hS hL
              have e19 : a.tmps.getD 19 undef = .agg (slc x).toArray := hL.1
              have e23 : a.tmps.getD 23 undef = .agg (slc y).toArray := hL.2.1
              clear hL
              refine lands_vB (run_neqs (.tmp 19) (.tmp 23) rfl e19 e23) ?_
              exact ⟨⟨fun d hd => by injection hd with hd; subst hd; rfl, fun h => by cases h⟩, hS, Below.refl _ _⟩
        · intro a W vals hd hsz hT hF hv hP hS
          obtain rfl : vals = [] := List.eq_nil_of_length_eq_zero hv
          have e24 : a.tmps.getD 24 undef = .bool (!eqS x y) := hT 24 (by simp)
          have e0 : a.tmps.getD 0 undef = .slice (some q) n c := hT 0 (by simp)
          have e1 : a.tmps.getD 1 undef = .slice (some q2) n c2 := hT 1 (by simp)
          have e2 : a.tmps.getD 2 undef = undef := hT 2 (by simp)
          have e3 : a.tmps.getD 3 undef = undef := hT 3 (by simp)
          have e5 : a.tmps.getD 5 undef = .int .i64 k := hT 5 (by simp)
          have e6 : a.tmps.getD 6 undef = .slice (some q) n c := hT 6 (by simp)
          have e7 : a.tmps.getD 7 undef = .int .i64 n := hT 7 (by simp)
          have e8 : a.tmps.getD 8 undef = .slice (some q2) n c2 := hT 8 (by simp)
          have e9 : a.tmps.getD 9 undef = .int .i64 n := hT 9 (by simp)
          have e10 : a.tmps.getD 10 undef = .bool false := hT 10 (by simp)
          have e11 : a.tmps.getD 11 undef = .slice (some q) n c := hT 11 (by simp)
          have e12 : a.tmps.getD 12 undef = .int .i64 n := hT 12 (by simp)
          have e13 : a.tmps.getD 13 undef = .int .i64 k := hT 13 (by simp)
          clear hT hF hP
          rw [act_lit 26 a hd hsz]
          simp only [List.range, List.range.loop, List.map, e24, e0, e1, e2, e3, e5, e6, e7, e8, e9, e10, e11, e12, e13]
          clear e24 e0 e1 e2 e3 e5 e6 e7 e8 e9 e10 e11 e12 e13 hsz hd
          have HB2 := Lib.hid (HB.out.trans (hS.mono HB.out.size))
          cases hv : eqS x y with
          | true =>
            rw [hv] at HE2
            repeat' (first | go_values | go_skip | go_guarded | go_step | go_upon)
            go_roundw
            case rel => exact ⟨k + 1, by simp, by omega, HE2, HB2⟩
            case measure => simp [intOf]; omega
          | false =>
            rw [hv] at HE2
            repeat' (first | go_values | go_skip | go_guarded | go_step | go_upon)
            exact bodyPost_ret (v := .bool false) (by simp [results, Tryd.results44, go_sem]) rfl ⟨by rw [HE2.out]; rfl, HB2.out⟩
      · obtain rfl : k = n := by omega
        have hlt' : ¬ (k : Int) < (k : Int) := by omega
        have hz : z = true := by rw [HE.out, List.drop_of_length_le (by rw [← HN.out]; exact Nat.le_refl _), List.drop_of_length_le (by rw [← HM.out]; exact Nat.le_refl _)]; rfl
        repeat' (first | go_values | go_skip | go_guarded | go_step | go_upon)
        exact bodyPost_ret (v := .bool true) (by simp [results, Tryd.results44, go_sem]) rfl ⟨by rw [hz], HB.out⟩
  · have hv : eqL L M = false := by
      cases hh : eqL L M with
      | false => rfl
      | true => exact absurd (by rw [eqL_iff.1 hh]) hn
    rw [hv]
    obtain ⟨n, hnn⟩ : ∃ n, n = L.length := ⟨_, rfl⟩
    obtain ⟨m, hmm⟩ : ∃ m, m = M.length := ⟨_, rfl⟩
    rw [← hnn, ← hmm] at hn ⊢
    have fn : ((n : Int) != (m : Int)) = true := by rw [bne_iff_ne]; omega
    clear h h2 hB hl hl2 hc hc2 hv hnn hmm
    go_enter Tryd.func44, Tryd.ntmps44
    repeat' (first | go_values | go_skip | go_guarded | go_step | go_upon)
    exact bodyPost_ret (v := .bool false) (by simp [results, Tryd.results44, go_sem]) rfl ⟨rfl, Below.refl _ _⟩
theorem equalf_nil {w : World} {c c2 : Nat} {F : Value} : Calls Tryd.prog 45 #[.slice none 0 c, .slice none 0 c2, F] w fun e W => e = .returned (.bool true) ∧ W = w := by
  go_enter Tryd.func45, Tryd.ntmps45
  go_wp2
  go_loopw [17] (fun i wr => i = .int .i64 0 ∧ wr = w) (fun _ _ => 0)
  case atStart => exact ⟨rfl, rfl⟩
  case round =>
    obtain ⟨rfl, rfl⟩ := hrel
    go_wp2
    go_ret
    exact ⟨rfl, rfl⟩
set_option maxRecDepth 20000 in
set_option maxHeartbeats 4000000 in
theorem sameN_any {w : World} {L M : List Sl} {B c c2 cn cn2 : Nat} {A A2 : Option Addr} (N N2 : Int) (h : Rd w B 9 A L.length (rwc L)) (h2 : Rd w B 9 A2 M.length (rwc M)) (hB : B ≤ w.heap.size) (hl : L.length ≤ 100000) (hl2 : M.length ≤ 100000) (hc : L.length ≤ c) (hc2 : M.length ≤ c2) :
    Calls Tryd.prog 18 #[.agg (enc N (.slice A L.length c) (.slice none 0 cn)).toArray, .agg (enc N2 (.slice A2 M.length c2) (.slice none 0 cn2)).toArray] w fun e W => e = .returned (.bool (decide (N = N2) && eqL L M)) ∧ Below w.heap.size w W := by
  by_cases hN : N = N2
  · subst hN
    rw [decide_eq_true rfl, Bool.true_and]
    have HE : Hid (∀ W : World, Below w.heap.size w W → Calls Tryd.prog 44 #[.slice A L.length c, .slice A2 M.length c2] W fun e W' => e = .returned (.bool (eqL L M)) ∧ Below W.heap.size W W') := Lib.hid fun W hb => equal_any (h.belowMono hb hB) (h2.belowMono hb hB) (Nat.le_trans hB hb.size) hl hl2 hc hc2
    obtain ⟨n, hnn⟩ : ∃ n, n = L.length := ⟨_, rfl⟩
    obtain ⟨m, hmm⟩ : ∃ m, m = M.length := ⟨_, rfl⟩
    obtain ⟨z, hz⟩ : ∃ z, z = eqL L M := ⟨_, rfl⟩
    rw [← hnn, ← hmm, ← hz] at HE
    rw [← hnn, ← hmm, ← hz]
    clear h h2 hB hl hl2 hc hc2 hnn hmm hz
    have HB : Hid (BX w [] w) := Lib.hid (BX.start w)
    go_enter Tryd.func18, Tryd.ntmps18
    repeat' (first | ((with_reducible show Oper.wp _ _ _ _ _ _); (first | (with_reducible refine is_bx 40 _ rfl ?_; refine bx_pl HB _ rfl rfl ?_) | (with_reducible refine is_bx 32 _ rfl ?_; refine bx_va HB _ rfl rfl ?_) | (with_reducible refine is_bx 28 _ rfl ?_; refine bx_en HB _ rfl rfl ?_) | (with_reducible refine is_bx 44 _ rfl ?_; refine bx_sl HB _ rfl rfl ?_)); clear HB; (first | (have _t : Nat := g10; clear _t; intro g11 W HB) | (have _t : Nat := g9; clear _t; intro g10 W HB) | (have _t : Nat := g8; clear _t; intro g9 W HB) | (have _t : Nat := g7; clear _t; intro g8 W HB) | (have _t : Nat := g6; clear _t; intro g7 W HB) | (have _t : Nat := g5; clear _t; intro g6 W HB) | (have _t : Nat := g4; clear _t; intro g5 W HB) | (have _t : Nat := g3; clear _t; intro g4 W HB) | (have _t : Nat := g2; clear _t; intro g3 W HB) | (have _t : Nat := g1; clear _t; intro g2 W HB) | (have _t : Nat := g0; clear _t; intro g1 W HB) | intro g0 W HB); go_simp) | ((with_reducible show Oper.wp _ _ _ _ _ _); (first | (with_reducible refine is_al 40 rfl ?_; refine al_g HB 40 (plc ⟨0, 0, 0⟩) (by kernel_rfl) ?_) | (with_reducible refine is_al 32 rfl ?_; refine al_g HB 32 (vac blV) (by kernel_rfl) ?_) | (with_reducible refine is_al 28 rfl ?_; refine al_g HB 28 (enc 0 (.slice none 0 0) (.slice none 0 0)) (by kernel_rfl) ?_) | (with_reducible refine is_al 44 rfl ?_; refine al_g HB 44 (slc ⟨⟨0, 0, 0⟩, blV⟩) (by kernel_rfl) ?_)); clear HB; (first | (have _t : Nat := g10; clear _t; intro g11 W HB) | (have _t : Nat := g9; clear _t; intro g10 W HB) | (have _t : Nat := g8; clear _t; intro g9 W HB) | (have _t : Nat := g7; clear _t; intro g8 W HB) | (have _t : Nat := g6; clear _t; intro g7 W HB) | (have _t : Nat := g5; clear _t; intro g6 W HB) | (have _t : Nat := g4; clear _t; intro g5 W HB) | (have _t : Nat := g3; clear _t; intro g4 W HB) | (have _t : Nat := g2; clear _t; intro g3 W HB) | (have _t : Nat := g1; clear _t; intro g2 W HB) | (have _t : Nat := g0; clear _t; intro g1 W HB) | intro g0 W HB); go_simp) | ((with_reducible show Oper.wp _ _ _ _ _ _); (first | (with_reducible refine is_ld 40 _ rfl ?_; (first | refine ld_pl 0 HB rfl _ rfl rfl ?_ | refine ld_pl 1 HB rfl _ rfl rfl ?_ | refine ld_pl 2 HB rfl _ rfl rfl ?_ | refine ld_pl 3 HB rfl _ rfl rfl ?_ | refine ld_pl 4 HB rfl _ rfl rfl ?_ | refine ld_pl 5 HB rfl _ rfl rfl ?_)) | (with_reducible refine is_ld 32 _ rfl ?_; (first | refine ld_va 0 HB rfl _ rfl rfl ?_ | refine ld_va 1 HB rfl _ rfl rfl ?_ | refine ld_va 2 HB rfl _ rfl rfl ?_ | refine ld_va 3 HB rfl _ rfl rfl ?_ | refine ld_va 4 HB rfl _ rfl rfl ?_ | refine ld_va 5 HB rfl _ rfl rfl ?_)) | (with_reducible refine is_ld 28 _ rfl ?_; (first | refine ld_en 0 HB rfl _ rfl rfl ?_ | refine ld_en 1 HB rfl _ rfl rfl ?_ | refine ld_en 2 HB rfl _ rfl rfl ?_ | refine ld_en 3 HB rfl _ rfl rfl ?_ | refine ld_en 4 HB rfl _ rfl rfl ?_ | refine ld_en 5 HB rfl _ rfl rfl ?_)) | (with_reducible refine is_ld 44 _ rfl ?_; (first | refine ld_sl 0 HB rfl _ rfl rfl ?_ | refine ld_sl 1 HB rfl _ rfl rfl ?_ | refine ld_sl 2 HB rfl _ rfl rfl ?_ | refine ld_sl 3 HB rfl _ rfl rfl ?_ | refine ld_sl 4 HB rfl _ rfl rfl ?_ | refine ld_sl 5 HB rfl _ rfl rfl ?_))); go_simp) | ((with_reducible show Oper.wp _ _ _ _ _ _); (first | (with_reducible refine is_ld 3 _ rfl ?_; (first | refine lf_int 0 HB rfl _ rfl rfl rfl ?_ | refine lf_int 1 HB rfl _ rfl rfl rfl ?_ | refine lf_int 2 HB rfl _ rfl rfl rfl ?_ | refine lf_int 3 HB rfl _ rfl rfl rfl ?_ | refine lf_int 4 HB rfl _ rfl rfl rfl ?_ | refine lf_int 5 HB rfl _ rfl rfl rfl ?_)) | (with_reducible refine is_ld 25 _ rfl ?_; (first | refine lf_ss 0 HB rfl _ rfl rfl rfl ?_ | refine lf_ss 1 HB rfl _ rfl rfl rfl ?_ | refine lf_ss 2 HB rfl _ rfl rfl rfl ?_ | refine lf_ss 3 HB rfl _ rfl rfl rfl ?_ | refine lf_ss 4 HB rfl _ rfl rfl rfl ?_ | refine lf_ss 5 HB rfl _ rfl rfl rfl ?_)) | (with_reducible refine is_ld 26 _ rfl ?_; (first | refine lf_es 0 HB rfl _ rfl rfl rfl ?_ | refine lf_es 1 HB rfl _ rfl rfl rfl ?_ | refine lf_es 2 HB rfl _ rfl rfl rfl ?_ | refine lf_es 3 HB rfl _ rfl rfl rfl ?_ | refine lf_es 4 HB rfl _ rfl rfl rfl ?_ | refine lf_es 5 HB rfl _ rfl rfl rfl ?_))); go_simp) | go_values | go_skip | go_guarded | go_step | go_upon)
    refine (HE.out _ HB.out.bel).mono ?_
    rintro e W1 ⟨rfl, hb⟩
    replace HB := Lib.hid (HB.out.call hb)
    clear hb
    dsimp only
    cases z with
    | true =>
      repeat' (first | ((with_reducible show Oper.wp _ _ _ _ _ _); (first | (with_reducible refine is_ld 40 _ rfl ?_; (first | refine ld_pl 0 HB rfl _ rfl rfl ?_ | refine ld_pl 1 HB rfl _ rfl rfl ?_ | refine ld_pl 2 HB rfl _ rfl rfl ?_ | refine ld_pl 3 HB rfl _ rfl rfl ?_ | refine ld_pl 4 HB rfl _ rfl rfl ?_ | refine ld_pl 5 HB rfl _ rfl rfl ?_)) | (with_reducible refine is_ld 32 _ rfl ?_; (first | refine ld_va 0 HB rfl _ rfl rfl ?_ | refine ld_va 1 HB rfl _ rfl rfl ?_ | refine ld_va 2 HB rfl _ rfl rfl ?_ | refine ld_va 3 HB rfl _ rfl rfl ?_ | refine ld_va 4 HB rfl _ rfl rfl ?_ | refine ld_va 5 HB rfl _ rfl rfl ?_)) | (with_reducible refine is_ld 28 _ rfl ?_; (first | refine ld_en 0 HB rfl _ rfl rfl ?_ | refine ld_en 1 HB rfl _ rfl rfl ?_ | refine ld_en 2 HB rfl _ rfl rfl ?_ | refine ld_en 3 HB rfl _ rfl rfl ?_ | refine ld_en 4 HB rfl _ rfl rfl ?_ | refine ld_en 5 HB rfl _ rfl rfl ?_)) | (with_reducible refine is_ld 44 _ rfl ?_; (first | refine ld_sl 0 HB rfl _ rfl rfl ?_ | refine ld_sl 1 HB rfl _ rfl rfl ?_ | refine ld_sl 2 HB rfl _ rfl rfl ?_ | refine ld_sl 3 HB rfl _ rfl rfl ?_ | refine ld_sl 4 HB rfl _ rfl rfl ?_ | refine ld_sl 5 HB rfl _ rfl rfl ?_))); go_simp) | ((with_reducible show Oper.wp _ _ _ _ _ _); (first | (with_reducible refine is_ld 3 _ rfl ?_; (first | refine lf_int 0 HB rfl _ rfl rfl rfl ?_ | refine lf_int 1 HB rfl _ rfl rfl rfl ?_ | refine lf_int 2 HB rfl _ rfl rfl rfl ?_ | refine lf_int 3 HB rfl _ rfl rfl rfl ?_ | refine lf_int 4 HB rfl _ rfl rfl rfl ?_ | refine lf_int 5 HB rfl _ rfl rfl rfl ?_)) | (with_reducible refine is_ld 25 _ rfl ?_; (first | refine lf_ss 0 HB rfl _ rfl rfl rfl ?_ | refine lf_ss 1 HB rfl _ rfl rfl rfl ?_ | refine lf_ss 2 HB rfl _ rfl rfl rfl ?_ | refine lf_ss 3 HB rfl _ rfl rfl rfl ?_ | refine lf_ss 4 HB rfl _ rfl rfl rfl ?_ | refine lf_ss 5 HB rfl _ rfl rfl rfl ?_)) | (with_reducible refine is_ld 26 _ rfl ?_; (first | refine lf_es 0 HB rfl _ rfl rfl rfl ?_ | refine lf_es 1 HB rfl _ rfl rfl rfl ?_ | refine lf_es 2 HB rfl _ rfl rfl rfl ?_ | refine lf_es 3 HB rfl _ rfl rfl rfl ?_ | refine lf_es 4 HB rfl _ rfl rfl rfl ?_ | refine lf_es 5 HB rfl _ rfl rfl rfl ?_))); go_simp) | go_values | go_skip | go_guarded | go_step | go_upon)
      refine equalf_nil.mono ?_
      rintro e W1 ⟨rfl, rfl⟩
      dsimp only
      repeat' (first | go_values | go_skip | go_guarded | go_step | go_upon)
      exact bodyPost_ret (v := .bool true) (by simp [results, Tryd.results18, go_sem]) rfl ⟨rfl, HB.out.bel⟩
    | false =>
      repeat' (first | ((with_reducible show Oper.wp _ _ _ _ _ _); (first | (with_reducible refine is_ld 40 _ rfl ?_; (first | refine ld_pl 0 HB rfl _ rfl rfl ?_ | refine ld_pl 1 HB rfl _ rfl rfl ?_ | refine ld_pl 2 HB rfl _ rfl rfl ?_ | refine ld_pl 3 HB rfl _ rfl rfl ?_ | refine ld_pl 4 HB rfl _ rfl rfl ?_ | refine ld_pl 5 HB rfl _ rfl rfl ?_)) | (with_reducible refine is_ld 32 _ rfl ?_; (first | refine ld_va 0 HB rfl _ rfl rfl ?_ | refine ld_va 1 HB rfl _ rfl rfl ?_ | refine ld_va 2 HB rfl _ rfl rfl ?_ | refine ld_va 3 HB rfl _ rfl rfl ?_ | refine ld_va 4 HB rfl _ rfl rfl ?_ | refine ld_va 5 HB rfl _ rfl rfl ?_)) | (with_reducible refine is_ld 28 _ rfl ?_; (first | refine ld_en 0 HB rfl _ rfl rfl ?_ | refine ld_en 1 HB rfl _ rfl rfl ?_ | refine ld_en 2 HB rfl _ rfl rfl ?_ | refine ld_en 3 HB rfl _ rfl rfl ?_ | refine ld_en 4 HB rfl _ rfl rfl ?_ | refine ld_en 5 HB rfl _ rfl rfl ?_)) | (with_reducible refine is_ld 44 _ rfl ?_; (first | refine ld_sl 0 HB rfl _ rfl rfl ?_ | refine ld_sl 1 HB rfl _ rfl rfl ?_ | refine ld_sl 2 HB rfl _ rfl rfl ?_ | refine ld_sl 3 HB rfl _ rfl rfl ?_ | refine ld_sl 4 HB rfl _ rfl rfl ?_ | refine ld_sl 5 HB rfl _ rfl rfl ?_))); go_simp) | ((with_reducible show Oper.wp _ _ _ _ _ _); (first | (with_reducible refine is_ld 3 _ rfl ?_; (first | refine lf_int 0 HB rfl _ rfl rfl rfl ?_ | refine lf_int 1 HB rfl _ rfl rfl rfl ?_ | refine lf_int 2 HB rfl _ rfl rfl rfl ?_ | refine lf_int 3 HB rfl _ rfl rfl rfl ?_ | refine lf_int 4 HB rfl _ rfl rfl rfl ?_ | refine lf_int 5 HB rfl _ rfl rfl rfl ?_)) | (with_reducible refine is_ld 25 _ rfl ?_; (first | refine lf_ss 0 HB rfl _ rfl rfl rfl ?_ | refine lf_ss 1 HB rfl _ rfl rfl rfl ?_ | refine lf_ss 2 HB rfl _ rfl rfl rfl ?_ | refine lf_ss 3 HB rfl _ rfl rfl rfl ?_ | refine lf_ss 4 HB rfl _ rfl rfl rfl ?_ | refine lf_ss 5 HB rfl _ rfl rfl rfl ?_)) | (with_reducible refine is_ld 26 _ rfl ?_; (first | refine lf_es 0 HB rfl _ rfl rfl rfl ?_ | refine lf_es 1 HB rfl _ rfl rfl rfl ?_ | refine lf_es 2 HB rfl _ rfl rfl rfl ?_ | refine lf_es 3 HB rfl _ rfl rfl rfl ?_ | refine lf_es 4 HB rfl _ rfl rfl rfl ?_ | refine lf_es 5 HB rfl _ rfl rfl rfl ?_))); go_simp) | go_values | go_skip | go_guarded | go_step | go_upon)
      exact bodyPost_ret (v := .bool false) (by simp [results, Tryd.results18, go_sem]) rfl ⟨rfl, HB.out.bel⟩
  · rw [decide_eq_false hN, Bool.false_and]
    obtain ⟨n, hnn⟩ : ∃ n, n = L.length := ⟨_, rfl⟩
    obtain ⟨m, hmm⟩ : ∃ m, m = M.length := ⟨_, rfl⟩
    rw [← hnn, ← hmm]
    have fn : (N == N2) = false := by rw [beq_eq_false_iff_ne]; exact hN
    clear h h2 hB hl hl2 hc hc2 hnn hmm hN
    have HB : Hid (BX w [] w) := Lib.hid (BX.start w)
    go_enter Tryd.func18, Tryd.ntmps18
    repeat' (first | ((with_reducible show Oper.wp _ _ _ _ _ _); (first | (with_reducible refine is_bx 40 _ rfl ?_; refine bx_pl HB _ rfl rfl ?_) | (with_reducible refine is_bx 32 _ rfl ?_; refine bx_va HB _ rfl rfl ?_) | (with_reducible refine is_bx 28 _ rfl ?_; refine bx_en HB _ rfl rfl ?_) | (with_reducible refine is_bx 44 _ rfl ?_; refine bx_sl HB _ rfl rfl ?_)); clear HB; (first | (have _t : Nat := g10; clear _t; intro g11 W HB) | (have _t : Nat := g9; clear _t; intro g10 W HB) | (have _t : Nat := g8; clear _t; intro g9 W HB) | (have _t : Nat := g7; clear _t; intro g8 W HB) | (have _t : Nat := g6; clear _t; intro g7 W HB) | (have _t : Nat := g5; clear _t; intro g6 W HB) | (have _t : Nat := g4; clear _t; intro g5 W HB) | (have _t : Nat := g3; clear _t; intro g4 W HB) | (have _t : Nat := g2; clear _t; intro g3 W HB) | (have _t : Nat := g1; clear _t; intro g2 W HB) | (have _t : Nat := g0; clear _t; intro g1 W HB) | intro g0 W HB); go_simp) | ((with_reducible show Oper.wp _ _ _ _ _ _); (first | (with_reducible refine is_al 40 rfl ?_; refine al_g HB 40 (plc ⟨0, 0, 0⟩) (by kernel_rfl) ?_) | (with_reducible refine is_al 32 rfl ?_; refine al_g HB 32 (vac blV) (by kernel_rfl) ?_) | (with_reducible refine is_al 28 rfl ?_; refine al_g HB 28 (enc 0 (.slice none 0 0) (.slice none 0 0)) (by kernel_rfl) ?_) | (with_reducible refine is_al 44 rfl ?_; refine al_g HB 44 (slc ⟨⟨0, 0, 0⟩, blV⟩) (by kernel_rfl) ?_)); clear HB; (first | (have _t : Nat := g10; clear _t; intro g11 W HB) | (have _t : Nat := g9; clear _t; intro g10 W HB) | (have _t : Nat := g8; clear _t; intro g9 W HB) | (have _t : Nat := g7; clear _t; intro g8 W HB) | (have _t : Nat := g6; clear _t; intro g7 W HB) | (have _t : Nat := g5; clear _t; intro g6 W HB) | (have _t : Nat := g4; clear _t; intro g5 W HB) | (have _t : Nat := g3; clear _t; intro g4 W HB) | (have _t : Nat := g2; clear _t; intro g3 W HB) | (have _t : Nat := g1; clear _t; intro g2 W HB) | (have _t : Nat := g0; clear _t; intro g1 W HB) | intro g0 W HB); go_simp) | ((with_reducible show Oper.wp _ _ _ _ _ _); (first | (with_reducible refine is_ld 40 _ rfl ?_; (first | refine ld_pl 0 HB rfl _ rfl rfl ?_ | refine ld_pl 1 HB rfl _ rfl rfl ?_ | refine ld_pl 2 HB rfl _ rfl rfl ?_ | refine ld_pl 3 HB rfl _ rfl rfl ?_ | refine ld_pl 4 HB rfl _ rfl rfl ?_ | refine ld_pl 5 HB rfl _ rfl rfl ?_)) | (with_reducible refine is_ld 32 _ rfl ?_; (first | refine ld_va 0 HB rfl _ rfl rfl ?_ | refine ld_va 1 HB rfl _ rfl rfl ?_ | refine ld_va 2 HB rfl _ rfl rfl ?_ | refine ld_va 3 HB rfl _ rfl rfl ?_ | refine ld_va 4 HB rfl _ rfl rfl ?_ | refine ld_va 5 HB rfl _ rfl rfl ?_)) | (with_reducible refine is_ld 28 _ rfl ?_; (first | refine ld_en 0 HB rfl _ rfl rfl ?_ | refine ld_en 1 HB rfl _ rfl rfl ?_ | refine ld_en 2 HB rfl _ rfl rfl ?_ | refine ld_en 3 HB rfl _ rfl rfl ?_ | refine ld_en 4 HB rfl _ rfl rfl ?_ | refine ld_en 5 HB rfl _ rfl rfl ?_)) | (with_reducible refine is_ld 44 _ rfl ?_; (first | refine ld_sl 0 HB rfl _ rfl rfl ?_ | refine ld_sl 1 HB rfl _ rfl rfl ?_ | refine ld_sl 2 HB rfl _ rfl rfl ?_ | refine ld_sl 3 HB rfl _ rfl rfl ?_ | refine ld_sl 4 HB rfl _ rfl rfl ?_ | refine ld_sl 5 HB rfl _ rfl rfl ?_))); go_simp) | ((with_reducible show Oper.wp _ _ _ _ _ _); (first | (with_reducible refine is_ld 3 _ rfl ?_; (first | refine lf_int 0 HB rfl _ rfl rfl rfl ?_ | refine lf_int 1 HB rfl _ rfl rfl rfl ?_ | refine lf_int 2 HB rfl _ rfl rfl rfl ?_ | refine lf_int 3 HB rfl _ rfl rfl rfl ?_ | refine lf_int 4 HB rfl _ rfl rfl rfl ?_ | refine lf_int 5 HB rfl _ rfl rfl rfl ?_)) | (with_reducible refine is_ld 25 _ rfl ?_; (first | refine lf_ss 0 HB rfl _ rfl rfl rfl ?_ | refine lf_ss 1 HB rfl _ rfl rfl rfl ?_ | refine lf_ss 2 HB rfl _ rfl rfl rfl ?_ | refine lf_ss 3 HB rfl _ rfl rfl rfl ?_ | refine lf_ss 4 HB rfl _ rfl rfl rfl ?_ | refine lf_ss 5 HB rfl _ rfl rfl rfl ?_)) | (with_reducible refine is_ld 26 _ rfl ?_; (first | refine lf_es 0 HB rfl _ rfl rfl rfl ?_ | refine lf_es 1 HB rfl _ rfl rfl rfl ?_ | refine lf_es 2 HB rfl _ rfl rfl rfl ?_ | refine lf_es 3 HB rfl _ rfl rfl rfl ?_ | refine lf_es 4 HB rfl _ rfl rfl rfl ?_ | refine lf_es 5 HB rfl _ rfl rfl rfl ?_))); go_simp) | go_values | go_skip | go_guarded | go_step | go_upon)
    exact bodyPost_ret (v := .bool false) (by simp [results, Tryd.results18, go_sem]) rfl ⟨rfl, HB.out.bel⟩
end Go.Proofs.YtkjiokepihmpfaaDoor

