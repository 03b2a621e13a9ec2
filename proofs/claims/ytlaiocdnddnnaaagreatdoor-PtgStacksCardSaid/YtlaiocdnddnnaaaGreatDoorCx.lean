/- expr.measure by its contract. Condition: the formula reads as a tree, which is not too great. -/
/- expr.Depth, expr.Count by their contracts. Condition: the formula reads as a tree, which is not too great. -/
/- expr.Check by its contract. Conditions: the formula reads as a tree, which is not too great; its texts are not too long; utf8.ValidString keeps its contract. -/
import Derived.Test.YtlaiocdnddnnaaaGreatDoorNf
import Derived.Test.YtlaiocdnddnnaaaGreatDoorCo
set_option linter.unusedVariables false
set_option linter.unusedSimpArgs false
namespace Go.Proofs.YtlaiocdnddnnaaaGreatDoor
open Go.RowKit
def MsJ (w : World) (B base gs : Nat) (en : Int) (D C : Nat) (g l : Nat) (a : Act) (W : World) : Prop :=
  l = 0 ∧ a.defers = [] ∧ a.tmps.size = 34 ∧ a.tmps.getD 1 undef = .int .i64 en ∧ a.tmps.getD 8 undef = .pointer (some ⟨gs, 0, none⟩) ∧
    ∃ (d c : Nat) (v : Value) (K : List (List Tr)), a.tmps.getD 6 undef = .int .i64 d ∧ a.tmps.getD 7 undef = .int .i64 c ∧ Way w W B base gs v K ∧ szR K.reverse < g ∧ max d (dmR K.reverse) = D ∧ c + szR K.reverse = C
def MsF (w : World) (en : Int) (D C : Nat) (a : Act) (W : World) : Prop :=
  a.defers = [] ∧ ∃ d c : Nat, a.tmps[4]? = some (.int .i64 d) ∧ a.tmps[5]? = some (.int .i64 c) ∧ (d = D ∧ c = C ∨ en ≤ d ∧ d ≤ D) ∧ Below w.heap.size w W
set_option maxRecDepth 20000 in
set_option maxHeartbeats 2000000 in
theorem measure_pass {w : World} {B base gs g : Nat} {en : Int} {D C : Nat} (hC : C ≤ 100000) (hD : D ≤ 100000) {Q : Exit → Act → World → Prop} (hQ : ∀ a W, MsF w en D C a W → Q .ret a W) {r0 body rest : Code}
    (hbody : Tryz.f35.body = some (.seq r0 (.scope body))) (hr : findLabel body 0 = some (.seq .skip rest)) {a : Act} {W : World} (hJ : MsJ w B base gs en D C g 0 a W) :
    rest.wp Tryz.prog (Exit.jumps (fun l' a' W' => ∃ g', g' < g ∧ MsJ w B base gs en D C g' l' a' W') Q) a W := by
  unfold Tryz.f35 at hbody; simp only [Option.some.injEq] at hbody; have hb2 := Code.scope.inj (Code.seq.inj hbody).2; clear hbody; subst hb2; injection hr with hr; injection hr with _ hr; subst hr; obtain ⟨-, hd, hsz, e1, e8, d, c, v, K, e6, e7, hW, hg, hmx, hct⟩ := hJ; rw [act_lit 34 a hd hsz]; simp only [List.range, List.range.loop, List.map, e1, e8, e6, e7]; clear hd hsz e1 e8 e6 e7; generalize a.tmps.getD 0 undef = y0, a.tmps.getD 2 undef = y2, a.tmps.getD 3 undef = y3, a.tmps.getD 4 undef = y4, a.tmps.getD 5 undef = y5, a.tmps.getD 9 undef = y9, a.tmps.getD 10 undef = y10, a.tmps.getD 11 undef = y11, a.tmps.getD 12 undef = y12, a.tmps.getD 13 undef = y13, a.tmps.getD 14 undef = y14, a.tmps.getD 15 undef = y15, a.tmps.getD 16 undef = y16, a.tmps.getD 17 undef = y17, a.tmps.getD 18 undef = y18, a.tmps.getD 19 undef = y19, a.tmps.getD 20 undef = y20, a.tmps.getD 21 undef = y21, a.tmps.getD 22 undef = y22, a.tmps.getD 23 undef = y23, a.tmps.getD 24 undef = y24, a.tmps.getD 25 undef = y25, a.tmps.getD 26 undef = y26, a.tmps.getD 27 undef = y27, a.tmps.getD 28 undef = y28, a.tmps.getD 29 undef = y29, a.tmps.getD 30 undef = y30, a.tmps.getD 31 undef = y31, a.tmps.getD 32 undef = y32, a.tmps.getD 33 undef = y33; have HM := Lib.hid (And.intro hmx (And.intro hct hg)); have HC := Lib.hid (And.intro hC hD); have HQ := Lib.hid hQ; clear hmx hct hg hQ
  repeat' (first | go_values | go_skip | go_guarded | go_step | go_upon)
  refine (next_any hW.stk hW.le.2.1 hW.le.2.2.1).mono ?_; rintro e W1 ⟨hK1, v1, hv1, hcase⟩; have hdb : d ≤ 100000 := by have := HM.out.1; have := HC.out.2; omega
  have hcb : c ≤ 100000 := by have := HM.out.2.1; have := HC.out.1; omega
  rcases hcase with ⟨hpop, rfl, hS1⟩ | ⟨p, ks, R, A, c1, hpop, rfl, hc1, hkr, hS1⟩
  · have hW1 := hW.step hK1 hS1; have hbz : Bk (W1.alloc (.cells #[.int .i64 0, .int .i64 0, .int .i64 0, .int .i64 0, .string ⟨#[]⟩, .bool false, .int .i64 0, .int .i64 0, .int .i64 0, .bool false, .bool false, .int .i64 0, .int .i64 0, .bool false, .bool false, .int .i64 0, .int .i64 0, .slice none 0 0] 47)) W1.heap.size 47 (ec zp (.slice none 0 0)).toArray := Bk.new _ _ _; clear hK1 hS1 hW; dsimp only
    repeat' (first | ((with_reducible show Oper.wp _ _ _ _ _ _); apply st_z; exact rfl; exact rfl; exact rfl; assumption; exact rfl; (intro W2 hk2 hK2 hz2; go_simp)) | go_values | go_skip | go_guarded | go_step | go_upon)
    simp only [Exit.jumps]; refine HQ.out _ _ ⟨rfl, d, c, rfl, rfl, .inl ?_, ?_⟩
    · obtain ⟨h1, h2, h3⟩ := HM.out; obtain ⟨p1, p2, -, -⟩ := pop_none hpop; omega
    · exact hW1.bel.trans ((made_box hK2).mono hW1.bel.size)
  · have hW1 := hW.step hK1 hS1; have hbz : Bk (W1.alloc (.cells #[.int .i64 0, .int .i64 0, .int .i64 0, .int .i64 0, .string ⟨#[]⟩, .bool false, .int .i64 0, .int .i64 0, .int .i64 0, .bool false, .bool false, .int .i64 0, .int .i64 0, .bool false, .bool false, .int .i64 0, .int .i64 0, .slice none 0 0] 47)) W1.heap.size 47 (ec zp (.slice none 0 0)).toArray := Bk.new _ _ _; clear hK1 hS1 hW; dsimp only
    by_cases hen : en ≤ (d : Int)
    · repeat' (first | ((with_reducible show Oper.wp _ _ _ _ _ _); apply st_p; exact rfl; exact rfl; exact rfl; assumption; exact rfl; (intro W2 hk2 hK2 hz2; go_simp)) | go_values | go_skip | go_guarded | go_step | go_upon)
      simp only [Exit.jumps]; refine HQ.out _ _ ⟨rfl, d, c, rfl, rfl, .inr ⟨hen, ?_⟩, ?_⟩
      · have := HM.out.1; omega
      · exact hW1.bel.trans ((made_box hK2).mono hW1.bel.size)
    · have hkr1 := hkr
      repeat' (first | ((with_reducible show Oper.wp _ _ _ _ _ _); apply stop_s; exact rfl) | go_values | go_skip | go_guarded | go_step | go_upon)
      refine Lib.hid ?_; apply st_p
      · exact rfl
      · exact rfl
      · exact rfl
      · assumption
      · exact rfl
      intro W2 hk2 hK2 hz2; have hb12 := made_box hK2; have hW2 := hW1.below hb12; have hkr2 := hkr1.below hb12 (by have := hW1.le; omega); obtain ⟨S, cS, rfl, hc0⟩ := hW2.form; clear hbz hkr1 hkr hK2 hz2 hW1 hb12; go_simp
      repeat' (first | go_values | go_skip | go_guarded | go_step | go_upon)
      refine depth_s.mono ?_; rintro e w3 ⟨rfl, rfl⟩; dsimp only
      repeat' (first | ((with_reducible show Oper.wp _ _ _ _ _ _); apply ld_p; exact rfl; exact rfl; assumption; go_simp) | go_values | go_skip | go_guarded | go_step | go_upon)
      obtain ⟨q1, q2, -, -, q5⟩ := pop_some hpop; obtain ⟨h1, h2, h3⟩ := HM.out; have hRl : R.length ≤ 100000 := by have := HC.out.2; omega
      refine (enter_any hW2.stk hW2.le.2.1 hW2.le.2.2.1 hW2.le.2.2.2 hc1 hkr2 (by rw [List.length_reverse]; omega)).mono ?_; rintro e W3 ⟨rfl, hK3, v3, hl3, hS3⟩; have hW3 := hW2.step hK3 hS3; clear hK3 hS3 hW2 hkr2 hk2 hc0; dsimp only
      repeat' (first | go_values | go_skip | go_guarded | go_step | go_upon)
      go_step3
      refine ⟨szR K.reverse, h3, rfl, rfl, rfl, rfl, rfl, max d R.length, c + 1, v3, R.reverse ++ [ks], ?_, by simp [Array.getD], hW3, ?_, ?_, ?_⟩
      · first
          | (show Value.int .i64 (if d < R.length then (R.length : Int) else (d : Int)) = _; congr 1; split <;> omega)
          | (show Value.int .i64 (max (d : Int) (R.length : Int)) = _; congr 1; omega)
      all_goals rw [List.reverse_append, List.reverse_reverse, List.reverse_singleton, List.singleton_append]
      · omega
      · omega
      · omega
def AtT (w : World) (p : Pay) (ks : List Tr) (A : Option Addr) (c : Nat) : Prop := ks.length ≤ c ∧ RowF treeF w (· < w.heap.size) A ks.length ks
theorem AtT.below {w w' : World} {p : Pay} {ks : List Tr} {A : Option Addr} {c : Nat} (h : AtT w p ks A c) (hb : Below w.heap.size w w') : AtT w' p ks A c := ⟨h.1, (h.2.below hb (Nat.le_refl _)).mono hb.size⟩
theorem way_start {w w1 W : World} {v : Value} {xs : List Value} {t : Tr} (hb1 : Below w.heap.size w w1) (hb : Below w1.heap.size w1 W) (hs : W.heap.size = w1.heap.size + 3) (ho : W.ownsRow (w1.heap.size + 2) 45 1 v 1 xs) (hh : Hdr W (w1.heap.size + 2) xs [[t]]) :
    Way w (W.alloc (.cells #[v] 96)) (w1.heap.size + 2) (w1.heap.size + 2) (w1.heap.size + 3) v [[t]] := by
  have hbW := bel0 W (.cells #[v] 96); refine ⟨hb1.trans ((hb.mono hb1.size).trans (hbW.mono (by have := hb1.size; omega))), ⟨?_, xs, ?_, hh.below hbW (by omega)⟩, by have := hb1.size; omega, Nat.le_refl _, by omega, by simp; omega⟩
  · rw [← hs]; exact Bk.new W 96 #[v]
  · exact (Keep.of_below (S := fun i => W.heap.size ≤ i) hbW fun i _ h => h).own ho fun i hi hh => by have := (ho.lt i hi).2; omega
set_option maxRecDepth 20000 in
set_option maxHeartbeats 2000000 in
theorem measure_any {w : World} {p : Pay} {ks : List Tr} {A : Option Addr} {c : Nat} (h : AtT w p ks A c) (en : Int) (hC : cntT (.mk p ks) ≤ 100000) :
    Calls Tryz.prog 35 #[.agg (ec p (.slice A ks.length c)).toArray, .int .i64 en] w fun e W =>
      ∃ d n : Nat, e = .returned (.tuple #[.int .i64 d, .int .i64 n]) ∧ (d = dpT (.mk p ks) ∧ n = cntT (.mk p ks) ∨ en ≤ d ∧ d ≤ dpT (.mk p ks)) ∧ Below w.heap.size w W := by
  have hD := Nat.le_trans (dp_cntT (.mk p ks)) hC; obtain ⟨w1, hw1⟩ : ∃ w1, w1 = w.alloc (.cells (ec p (.slice A ks.length c)).toArray 47) := ⟨_, rfl⟩
  have hb1 : Below w.heap.size w w1 := by rw [hw1]; exact bel0 _ _
  have h1 := h.below hb1; have hk1 : Bk w1 w.heap.size 47 (ec p (.slice A ks.length c)).toArray := by rw [hw1]; exact Bk.new _ _ _
  go_enter Tryz.func35, Tryz.ntmps35
  repeat' (first | go_values | go_skip | go_guarded | go_step | go_upon)
  rw [← hw1]; clear hw1 h
  rename_i Q'
  have hQ : ∀ a W, MsF w en (dpT (.mk p ks)) (cntT (.mk p ks)) a W → Q' .ret a W := by
    rintro a W ⟨hd, d, n, h4, h5, h6, hb⟩; refine bodyPost_ret (v := .tuple #[.int .i64 d, .int .i64 n]) ?_ hd ⟨d, n, rfl, h6, hb⟩; simp [results, Tryz.results35, go_sem, h4, h5]
  clear_value Q'
  refine wp_scope_ghost (MsJ w (w1.heap.size + 2) (w1.heap.size + 2) (w1.heap.size + 3) en (dpT (.mk p ks)) (cntT (.mk p ks))) ?_ ?_
  · repeat' (first | ((with_reducible show Oper.wp _ _ _ _ _ _); apply ld_p; exact rfl; exact rfl; assumption; go_simp) | go_values | go_skip | go_guarded | go_step | go_upon)
    refine (start_any h1.1 h1.2).mono ?_; rintro e W ⟨v, xs, rfl, hb, hsz, ho, hh⟩; obtain ⟨S, c', rfl, -⟩ := own_form ho; have HW := Lib.hid (way_start hb1 hb hsz ho hh); dsimp only
    repeat' (first | go_values | go_skip | go_guarded | go_step | go_upon)
    go_step3
    rename_i Kk hKk
    refine hKk _ _ (wp_mono (measure_pass (B := w1.heap.size + 2) (base := w1.heap.size + 2) (gs := w1.heap.size + 3) hC hD hQ (g := cntT (.mk p ks) + 1) rfl rfl ?_) ?_)
    · refine ⟨rfl, rfl, rfl, rfl, rfl, 0, 0, _, [[.mk p ks]], rfl, rfl, HW.out, ?_, ?_, ?_⟩
      · simp [szR, cntL]
      · simp [dmR, dpL]
      · simp [szR, cntL]
    · intro e a W hq
      cases e with
      | goto l =>
        obtain ⟨g', -, h⟩ := hq; exact ⟨g', h⟩
      | _ => exact hq
  · intro g l a W hJ; obtain rfl := hJ.1; exact ⟨_, rfl, wp_seq (wp_skip (measure_pass hC hD hQ rfl rfl hJ))⟩
end Go.Proofs.YtlaiocdnddnnaaaGreatDoor
namespace Go.Proofs.YtlaiocdnddnnaaaGreatDoor
open Go.RowKit
end Go.Proofs.YtlaiocdnddnnaaaGreatDoor
namespace Go.Proofs.YtlaiocdnddnnaaaGreatDoor
open Go.RowKit
def ShortN (l : List (Pay × Nat)) : Prop := ∀ q ∈ l, q.1.vt.size ≤ 140737488355328
def CxJ (w : World) (B base gs : Nat) (C : Int) (g l : Nat) (a : Act) (W : World) : Prop :=
  l = 0 ∧ a.defers = [] ∧ a.tmps.size = 35 ∧ a.tmps.getD 5 undef = .pointer (some ⟨gs, 0, none⟩) ∧
    ∃ (v : Value) (K : List (List Tr)), Way w W B base gs v K ∧ szR K.reverse < g ∧ chk oneE (ndR K.reverse) = C ∧ ShortN (ndR K.reverse) ∧ dmR K.reverse ≤ 100000
def CxF (w : World) (C : Int) (a : Act) (W : World) : Prop := a.defers = [] ∧ a.tmps[2]? = some (.int .i64 C) ∧ Below w.heap.size w W
set_option maxRecDepth 20000 in
set_option maxHeartbeats 2000000 in
theorem check_pass {w : World} (HV : Val w) {B base gs g : Nat} {C : Int} {Q : Exit → Act → World → Prop} (hQ : ∀ a W, CxF w C a W → Q .ret a W) {r0 body rest : Code}
    (hbody : Tryz.f24.body = some (.seq r0 (.scope body))) (hr : findLabel body 0 = some (.seq .skip rest)) {a : Act} {W : World} (hJ : CxJ w B base gs C g 0 a W) :
    rest.wp Tryz.prog (Exit.jumps (fun l' a' W' => ∃ g', g' < g ∧ CxJ w B base gs C g' l' a' W') Q) a W := by
  unfold Tryz.f24 at hbody; simp only [Option.some.injEq] at hbody; have hb2 := Code.scope.inj (Code.seq.inj hbody).2; clear hbody; subst hb2; injection hr with hr; injection hr with _ hr; subst hr; obtain ⟨-, hd, hsz, e5, v, K, hW, hg, hck, hsh, hdm⟩ := hJ; rw [act_lit 35 a hd hsz]; simp only [List.range, List.range.loop, List.map, e5]; clear hd hsz e5; generalize a.tmps.getD 0 undef = y0, a.tmps.getD 1 undef = y1, a.tmps.getD 2 undef = y2, a.tmps.getD 3 undef = y3, a.tmps.getD 4 undef = y4, a.tmps.getD 6 undef = y6, a.tmps.getD 7 undef = y7, a.tmps.getD 8 undef = y8, a.tmps.getD 9 undef = y9, a.tmps.getD 10 undef = y10, a.tmps.getD 11 undef = y11, a.tmps.getD 12 undef = y12, a.tmps.getD 13 undef = y13, a.tmps.getD 14 undef = y14, a.tmps.getD 15 undef = y15, a.tmps.getD 16 undef = y16, a.tmps.getD 17 undef = y17, a.tmps.getD 18 undef = y18, a.tmps.getD 19 undef = y19, a.tmps.getD 20 undef = y20, a.tmps.getD 21 undef = y21, a.tmps.getD 22 undef = y22, a.tmps.getD 23 undef = y23, a.tmps.getD 24 undef = y24, a.tmps.getD 25 undef = y25, a.tmps.getD 26 undef = y26, a.tmps.getD 27 undef = y27, a.tmps.getD 28 undef = y28, a.tmps.getD 29 undef = y29, a.tmps.getD 30 undef = y30, a.tmps.getD 31 undef = y31, a.tmps.getD 32 undef = y32, a.tmps.getD 33 undef = y33, a.tmps.getD 34 undef = y34; have HM := Lib.hid (And.intro hg (And.intro hck (And.intro hsh hdm))); have HQ := Lib.hid hQ; have HVV := Lib.hid HV; clear hg hck hsh hdm hQ HV
  repeat' (first | go_values | go_skip | go_guarded | go_step | go_upon)
  refine (next_any hW.stk hW.le.2.1 hW.le.2.2.1).mono ?_; rintro e W1 ⟨hK1, v1, hv1, hcase⟩
  rcases hcase with ⟨hpop, rfl, hS1⟩ | ⟨p, ks, R, A, c1, hpop, rfl, hc1, hkr, hS1⟩
  · have hW1 := hW.step hK1 hS1; have hbz : Bk (W1.alloc (.cells #[.int .i64 0, .int .i64 0, .int .i64 0, .int .i64 0, .string ⟨#[]⟩, .bool false, .int .i64 0, .int .i64 0, .int .i64 0, .bool false, .bool false, .int .i64 0, .int .i64 0, .bool false, .bool false, .int .i64 0, .int .i64 0, .slice none 0 0] 47)) W1.heap.size 47 (ec zp (.slice none 0 0)).toArray := Bk.new _ _ _; clear hK1 hS1 hW; dsimp only
    repeat' (first | ((with_reducible show Oper.wp _ _ _ _ _ _); apply st_z; exact rfl; exact rfl; exact rfl; assumption; exact rfl; (intro W2 hk2 hK2 hz2; go_simp)) | go_values | go_skip | go_guarded | go_step | go_upon)
    simp only [Exit.jumps]
    have hC : C = 0 := by
      obtain ⟨-, -, p3, -⟩ := pop_none hpop; have := HM.out.2.1; rw [p3] at this; exact this.symm
    refine HQ.out _ _ ⟨rfl, by rw [hC]; rfl, ?_⟩; exact hW1.bel.trans ((made_box hK2).mono hW1.bel.size)
  · have hW1 := hW.step hK1 hS1; have hbz : Bk (W1.alloc (.cells #[.int .i64 0, .int .i64 0, .int .i64 0, .int .i64 0, .string ⟨#[]⟩, .bool false, .int .i64 0, .int .i64 0, .int .i64 0, .bool false, .bool false, .int .i64 0, .int .i64 0, .bool false, .bool false, .int .i64 0, .int .i64 0, .slice none 0 0] 47)) W1.heap.size 47 (ec zp (.slice none 0 0)).toArray := Bk.new _ _ _; clear hK1 hS1 hW; dsimp only; have hkr1 := hkr
    repeat' (first | ((with_reducible show Oper.wp _ _ _ _ _ _); apply stop_s; exact rfl) | go_values | go_skip | go_guarded | go_step | go_upon)
    refine Lib.hid ?_; apply st_p
    · exact rfl
    · exact rfl
    · exact rfl
    · assumption
    · exact rfl
    intro W2 hk2 hK2 hz2; have hb12 := made_box hK2; have hW2 := hW1.below hb12; have hkr2 := hkr1.below hb12 (by have := hW1.le; omega); clear hbz hkr1 hkr hK2 hz2 hW1 hb12; go_simp; obtain ⟨q1, q2, q3, -, q5⟩ := pop_some hpop; obtain ⟨h1, h2, h3, h4⟩ := HM.out; rw [q3] at h2 h3
    repeat' (first | ((with_reducible show Oper.wp _ _ _ _ _ _); apply ld_p; exact rfl; exact rfl; assumption; go_simp) | go_values | go_skip | go_guarded | go_step | go_upon)
    refine (checkOne_any (HVV.out.below hW2.bel) p A ks.length c1 (h3 _ (List.mem_cons_self ..))).mono ?_; rintro e W3 ⟨rfl, hb23⟩; have hW3 := hW2.below hb23; have hk3 := hk2.below hb23 hk2.lt; have hkr3 := hkr2.below hb23 (by have := hW2.le; omega); obtain ⟨S, cS, rfl, hc0⟩ := hW3.form; have HX : Hid (oneE p ks.length = oneE p ks.length) := Lib.hid rfl; simp only [chk] at h2; generalize oneE p ks.length = e1 at *; clear hW2 hk2 hkr2 hb23 HX; dsimp only
    by_cases he : e1 = 0
    · subst he; rw [if_pos rfl] at h2
      repeat' (first | ((with_reducible show Oper.wp _ _ _ _ _ _); apply ld_p; exact rfl; exact rfl; assumption; go_simp) | go_values | go_skip | go_guarded | go_step | go_upon)
      have hRl : R.length ≤ 100000 := by omega
      refine (enter_any hW3.stk hW3.le.2.1 hW3.le.2.2.1 hW3.le.2.2.2 hc1 hkr3 (by rw [List.length_reverse]; omega)).mono ?_; rintro e W4 ⟨rfl, hK3, v3, hl3, hS3⟩; have hW4 := hW3.step hK3 hS3; clear hK3 hS3 hW3 hkr3 hk3 hc0; dsimp only
      repeat' (first | go_values | go_skip | go_guarded | go_step | go_upon)
      go_step3
      refine ⟨szR K.reverse, h1, rfl, rfl, rfl, rfl, v3, R.reverse ++ [ks], hW4, ?_, ?_, ?_, ?_⟩
      all_goals rw [List.reverse_append, List.reverse_reverse, List.reverse_singleton, List.singleton_append]
      · omega
      · exact h2
      · exact fun q hq => h3 q (List.mem_cons_of_mem _ hq)
      · omega
    · have he1 : (e1 == 0) = false := by simpa using he
      have he2 : (e1 != 0) = true := by simpa using he
      rw [if_neg he] at h2
      repeat' (first | go_values | go_skip | go_guarded | go_step | go_upon)
      simp only [Exit.jumps]; exact HQ.out _ _ ⟨rfl, by rw [← h2]; rfl, hW3.bel⟩
set_option maxRecDepth 20000 in
set_option maxHeartbeats 2000000 in
theorem check_t {w : World} (HV : Val w) {p : Pay} {ks : List Tr} {A : Option Addr} {c : Nat} (h : AtT w p ks A c) (hC : cntT (.mk p ks) ≤ 100000) (hs : ShortN (ndT (.mk p ks))) :
    Calls Tryz.prog 24 #[.agg (ec p (.slice A ks.length c)).toArray] w fun e W => e = .returned (.int .i64 (ckT oneE (.mk p ks))) ∧ Below w.heap.size w W := by
  obtain ⟨w1, hw1⟩ : ∃ w1, w1 = w.alloc (.cells (ec p (.slice A ks.length c)).toArray 47) := ⟨_, rfl⟩
  have hb1 : Below w.heap.size w w1 := by rw [hw1]; exact bel0 _ _
  have h1 := h.below hb1; have hk1 : Bk w1 w.heap.size 47 (ec p (.slice A ks.length c)).toArray := by rw [hw1]; exact Bk.new _ _ _
  have hD := dp_cntT (.mk p ks); go_enter Tryz.func24, Tryz.ntmps24
  repeat' (first | go_values | go_skip | go_guarded | go_step | go_upon)
  rw [← hw1]; clear hw1 h
  rename_i Q'
  have hQ : ∀ a W, CxF w (ckT oneE (.mk p ks)) a W → Q' .ret a W := by
    rintro a W ⟨hd, h4, hb⟩; refine bodyPost_ret (v := .int .i64 (ckT oneE (.mk p ks))) ?_ hd ⟨rfl, hb⟩; simp [results, Tryz.results24, go_sem, h4]
  clear_value Q'
  have HT : Hid (ckT oneE (.mk p ks) = ckT oneE (.mk p ks)) := Lib.hid rfl; have HS := Lib.hid hs; have HVV := Lib.hid HV; clear HV hs; refine wp_scope_ghost (fun g l a W => ∃ B base gs, CxJ w B base gs (ckT oneE (.mk p ks)) g l a W) ?_ ?_
  · repeat' (first | ((with_reducible show Oper.wp _ _ _ _ _ _); apply ld_p; exact rfl; exact rfl; assumption; go_simp) | go_values | go_skip | go_guarded | go_step | go_upon)
    refine (measure_any h1 17 hC).mono ?_; rintro e W5 ⟨d, n, rfl, hd, hb⟩; have h5 := h1.below hb; have hk5 := hk1.below hb hk1.lt; have hb5 := hb1.trans (hb.mono hb1.size); clear h1 hk1; dsimp only
    by_cases h16 : 16 < d
    · have hT : ckT oneE (.mk p ks) = 11 := by
        unfold ckT; rw [if_pos (by omega)]
      repeat' (first | go_values | go_skip | go_guarded | go_step | go_upon)
      simp only [Exit.jumps]; exact hQ _ _ ⟨rfl, by rw [hT]; rfl, hb5⟩
    · rcases hd with ⟨hd1, hn1⟩ | ⟨hd1, -⟩
      · by_cases h1k : 1024 < n
        · have hT : ckT oneE (.mk p ks) = 4 := by
            unfold ckT; rw [if_neg (by omega), if_pos (by omega)]
          repeat' (first | go_values | go_skip | go_guarded | go_step | go_upon)
          simp only [Exit.jumps]; exact hQ _ _ ⟨rfl, by rw [hT]; rfl, hb5⟩
        · have hT : Hid (ckT oneE (.mk p ks) = chk oneE (ndT (.mk p ks))) := Lib.hid (by
            unfold ckT
            rw [if_neg (by omega), if_neg (by omega)])
          repeat' (first | ((with_reducible show Oper.wp _ _ _ _ _ _); apply ld_p; exact rfl; exact rfl; assumption; go_simp) | go_values | go_skip | go_guarded | go_step | go_upon)
          refine (start_any h5.1 h5.2).mono ?_; rintro e W ⟨v, xs, rfl, hb6, hsz, ho, hh⟩; obtain ⟨S, c', rfl, -⟩ := own_form ho; have HW := Lib.hid (way_start hb5 hb6 hsz ho hh); dsimp only
          repeat' (first | go_values | go_skip | go_guarded | go_step | go_upon)
          go_step3
          rename_i Kk hKk
          refine hKk _ _ (wp_mono (check_pass (B := W5.heap.size + 2) (base := W5.heap.size + 2) (gs := W5.heap.size + 3) HVV.out hQ (g := cntT (.mk p ks) + 1) rfl rfl ?_) ?_)
          · refine ⟨rfl, rfl, rfl, rfl, _, [[.mk p ks]], HW.out, ?_, ?_, ?_, ?_⟩
            · simp [szR, cntL]
            · rw [hT.out]; simp [ndR, ndL]
            · have := HS.out
              simpa [ndR, ndL] using this
            · simp [dmR, dpL]; omega
          · intro e a W hq
            cases e with
            | goto l =>
              obtain ⟨g', -, h⟩ := hq; exact ⟨g', _, _, _, h⟩
            | _ => exact hq
      · omega
  · rintro g l a W ⟨B, base, gs, hJ⟩; obtain rfl := hJ.1; refine ⟨_, rfl, wp_seq (wp_skip (wp_mono (check_pass HVV.out hQ rfl rfl hJ) ?_))⟩; intro e a W hq
    cases e with
    | goto l =>
      obtain ⟨g', hg', h⟩ := hq; exact ⟨g', hg', _, _, _, h⟩
    | _ => exact hq
end Go.Proofs.YtlaiocdnddnnaaaGreatDoor
